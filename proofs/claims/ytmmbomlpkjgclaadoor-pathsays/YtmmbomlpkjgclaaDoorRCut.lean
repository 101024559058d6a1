/- What the reference's Cut answers at a slash. -/
import Derived.Test.YtmmbomlpkjgclaaDoorRJoin
import Derived.Test.YtmmbomlpkjgclaaDoorPlain5
import Derived.BigRegion
namespace Go.Proofs.YtmmbomlpkjgclaaDoor
open Go.RowKit

theorem infoString : (Tryd.prog.info? 9).map (fun i => (i.zero, i.size, i.bytes)) = some (some (.string ⟨#[]⟩), 1, 16) := by kernel_rfl

theorem strs_oneCell (xs : List ByteArray) : ∀ u ∈ xs.map Value.string, u.oneCell' = true := by
  intro u hu
  obtain ⟨x, _, rfl⟩ := List.mem_map.1 hu
  rfl

/-- One byte more that is no slash. -/
theorem cut_more {B : Nat} {w wr : World} {g m cap : Nat} {ys : List ByteArray} {y : ByteArray} {z : ByteArray} (hown : wr.ownsRow B 9 1 (.slice (some ⟨g, 0, none⟩) (m + 1) cap) (m + 1) ((ys ++ [y]).map Value.string)) (hm : ys.length = m) (hB : B ≤ g) (hb : Below B w wr) :
    (wr.setCell ⟨g, m, none⟩ (.string z)).ownsRow B 9 1 (.slice (some ⟨g, 0, none⟩) (m + 1) cap) (m + 1) ((ys ++ [z]).map Value.string) ∧ Below B w (wr.setCell ⟨g, m, none⟩ (.string z)) := by
  refine ⟨?_, hb.setCell (by exact hB) _⟩
  have h := (hown.stored m (.string z)).1
  have e : ((ys ++ [y]).map Value.string).set m (.string z) = (ys ++ [z]).map Value.string := by
    subst hm
    simp
  rwa [e] at h

theorem own_form {w : World} {base n : Nat} {v : Value} {xs : List Value} (h : w.ownsRow base 9 1 v n xs) (hn : 1 ≤ n) : ∃ g cap, v = .slice (some ⟨g, 0, none⟩) n cap ∧ base ≤ g ∧ g < w.heap.size ∧ n ≤ cap := by
  rcases h.2 with ⟨_, h0⟩ | ⟨g, cap, cur, hv, hb, hg, hnc, _⟩
  · omega
  · exact ⟨g, cap, hv, hb, (Array.getElem?_eq_some_iff.1 hg).1, hnc⟩

theorem xs_last {xs : List ByteArray} (h : 1 ≤ xs.length) : ∃ ys y, xs = ys ++ [y] := by
  have hne : xs ≠ [] := by intro e; rw [e] at h; simp at h
  exact ⟨xs.dropLast, xs.getLast hne, (List.dropLast_concat_getLast hne).symm⟩

theorem one_byte (s : ByteArray) (k : Nat) (h : k < s.size) : (s.extract k (k + 1)).data.toList = [s[k]] := by
  rw [Lib.extract_data, Nat.add_sub_cancel_left]
  rw [List.drop_eq_getElem_cons (by rw [sz_list]; exact h)]
  rfl

theorem cut_names (ys : List ByteArray) (y s : ByteArray) (k : Nat) (h : k < s.size) : (ys ++ [y ++ s.extract k (k + 1)]).map (·.data.toList) = ys.map (·.data.toList) ++ [y.data.toList ++ [s[k]]] := by
  rw [List.map_append, ← one_byte s k h, ← data_append]; rfl

set_option maxHeartbeats 1000000 in
theorem cut_any (s : ByteArray) (w : World) (hs : s.size ≤ 1000) :
    Calls Tryd.prog 36 #[.string s, .int .u8 47] w fun e w' => ∃ (v : Value) (xs : List ByteArray), e = .returned v ∧ w'.ownsRow w.heap.size 9 1 v xs.length (xs.map Value.string) ∧ xs.map (·.data.toList) = Pl.spl s.data.toList ∧ Below w.heap.size w w' := by
  obtain ⟨i0, hi, hz0, hz1, hz2⟩ := info_parts infoString
  go_enter Tryd.func36, Tryd.ntmps36
  go_wp2
  go_loopw [5, 6] (fun v i wr => ∃ (k : Nat) (xs : List ByteArray), k ≤ s.size ∧ i = .int .i64 k ∧ wr.ownsRow w.heap.size 9 1 v xs.length (xs.map Value.string) ∧ xs.map (·.data.toList) = Pl.spl (s.data.toList.take k) ∧ Below w.heap.size w wr) (fun _ i _ => s.size - (intOf i).toNat)
  case atStart => exact ⟨0, [⟨#[]⟩], Nat.zero_le _, rfl, World.ownsRow_lit w #[.string ⟨#[]⟩] 1 (Nat.le_refl _) (by decide) rfl, rfl, (Below.refl _ _).alloc (Nat.le_refl _) _⟩
  case round =>
    obtain ⟨k, xs, hk, rfl, hown, hxs, hb⟩ := hrel
    have HX : Hid (xs.map (·.data.toList) = Pl.spl (s.data.toList.take k)) := hxs
    have hlen : xs.length ≤ 1001 ∧ 1 ≤ xs.length := by
      have h1 := congrArg List.length hxs
      rw [List.length_map, Pl.spl_length] at h1
      have h2 := List.count_le_length (a := (47 : UInt8)) (l := s.data.toList.take k)
      rw [List.length_take, sz_list] at h2
      omega
    have HB : Hid (Below w.heap.size w wr) := hb
    obtain ⟨g, cap, rfl, hBg, hgs, hnc⟩ := own_form hown hlen.2
    obtain ⟨ys, y, rfl⟩ := xs_last hlen.2
    obtain ⟨m, hm⟩ : ∃ m, ys.length = m := ⟨_, rfl⟩
    have hl : (ys ++ [y]).length = m + 1 := by rw [List.length_append, hm]; rfl
    rw [hl] at hown hlen hnc ⊢
    have HO : Hid (wr.ownsRow w.heap.size 9 1 (.slice (some ⟨g, 0, none⟩) (m + 1) cap) (m + 1) ((ys ++ [y]).map Value.string)) := hown
    have HM : Hid (ys.length = m) := hm
    have hcell : wr.cell? ⟨g, m, none⟩ = some (.string y) := by
      rw [hown.cellAt m (by omega)]
      subst hm
      simp
    have hfr : wr.frozen? ⟨g, m, none⟩ = false := hown.frozenAt m
    have hy : y.size ≤ 1000 := by
      have h1 : y.data.toList ∈ Pl.spl (s.data.toList.take k) := by rw [← HX.out]; simp
      have h2 := Pl.spl_short _ _ h1
      rw [List.length_take, sz_list, sz_list] at h2
      omega
    have hm1 : m ≤ 1000 := by omega
    clear hxs hb hown hm hl hlen
    by_cases hlt : k < s.size
    · have hts := take_snoc s k hlt
      have HT : Hid (s.data.toList.take (k + 1) = s.data.toList.take k ++ [s[k]]) := hts
      clear hts
      have hlt' : (k : Int) < s.size := by omega
      cases b3 : (s[k].toNat : Int) == 47 with
      | true =>
        have HC : Hid (s[k] = 47) := UInt8.toNat_inj.1 (by have := beq_iff_eq.1 b3; simp; omega)
        go_wp2_with (at_builtin; refine wpList_append_own _ rfl _ _ 30 rfl w.heap.size 9 i0 (.string ⟨#[]⟩) 1 16 Tryd.underlying30 hi hz0 hz1 hz2 rfl (by decide) _ _ _ rfl (HO.out.alloc _) ⟨wr.heap.size, 0, none⟩ 1 1 [.string ⟨#[]⟩] rfl rfl ?c1 ?c2 ?c3 ?c4 ?c5 ?_)
        case c1 =>
          intro j u hj
          match j, hj with
          | 0, hj => simp at hj; subst hj; simp [Addr.add]
        case c2 => intro u hu; simp at hu; subst hu; rfl
        case c3 => unfold maxLen; omega
        case c4 => omega
        case c5 => have := HB.out.size; simp; omega
        · intro v' w1 hown' hgrow _
          have HO' : Hid (w1.ownsRow w.heap.size 9 1 v' (m + 1 + 1) ((ys ++ [y, ⟨#[]⟩]).map Value.string)) := by
            have h : w1.ownsRow w.heap.size 9 1 v' (m + 1 + 1) ((ys ++ [y, ⟨#[]⟩]).map Value.string) := by simpa using hown'
            exact h
          have HB' : Hid (Below w.heap.size w w1) := (HB.out.alloc HB.out.size _).grown hgrow (by have := HB.out.size; simp; omega) (fun b hb => by simp [Value.ownBlock] at hb; omega)
          clear hown' hgrow
          go_wp2
          go_roundw
          case rel => exact ⟨k + 1, ys ++ [y, ⟨#[]⟩], by omega, by go_num, by rw [List.length_append, HM.out]; exact HO'.out, by rw [HT.out, HC.out, Pl.spl_snoc_slash, ← HX.out]; simp, HB'.out⟩
          case measure => simp [intOf]; omega
      | false =>
        have HC : Hid (s[k] ≠ 47) := by intro e; rw [e] at b3; cases b3
        have hk0 : (0 : Int) ≤ (k : Int) := by omega
        have hk1 : (k : Int) + 1 ≤ (s.size : Int) := by omega
        have hmi : (m : Int) < ((m + 1 : Nat) : Int) := by omega
        go_wp2
        go_region
        go_wp2
        go_roundw
        case rel =>
          have hz := cut_more (z := y ++ s.extract k (k + 1)) HO.out HM.out hBg HB.out
          exact ⟨k + 1, ys ++ [y ++ s.extract k (k + 1)], by omega, by go_num, by rw [List.length_append, HM.out]; exact hz.1, by rw [HT.out, Pl.spl_snoc_other HC.out _ (ys.map (·.data.toList)) y.data.toList (by rw [← HX.out]; simp)]; exact cut_names ys y s k hlt, hz.2.drew⟩
        case measure => simp [intOf]; omega
    · go_wp2
      go_ret
      exact ⟨_, ys ++ [y], rfl, by rw [List.length_append, HM.out]; exact HO.out, by rw [HX.out, List.take_of_length_le (by rw [sz_list]; omega)], HB.out⟩
end Go.Proofs.YtmmbomlpkjgclaaDoor
