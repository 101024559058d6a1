/- What the reference's IsName, Of and Join answer. What the reference's Cut answers at a slash. What the reference's Parts and Good answer. What the reference's Name, Top and Parent answer; and the program's and the reference's, for every text alike. What the reference's Same and Within answer. What the reference's Digits answers. What the reference's Number answers. -/
import Derived.Test.YtjimemnkmpapgaaGreatDoorLibN
import Derived.Test.YtjimemnkmpapgaaGreatDoorLibP
import Derived.BigRegion
import Derived.Laws.BytesArg
import Derived.Deep.RegionWith
namespace Go.Proofs.YtjimemnkmpapgaaGreatDoor.Pa
open Go.RowKit

set_option maxRecDepth 20000 in
set_option maxHeartbeats 400000 in
theorem isName_any (s : ByteArray) (w : World) (hs : s.size ≤ maxLen) :
    Calls Tryz.prog 52 #[.string s] w fun e w' => e = .returned (.bool (Pl.nameB s.data.toList)) ∧ w' = w := by
  unfold maxLen at hs
  by_cases h1 : (s.size : Int) < 1
  · have hf : Pl.nameB s.data.toList = false := Pl.nameB_none (List.length_eq_zero_iff.1 (by rw [← Lib.size_eq]; omega))
    rw [hf]; clear hf
    go_enter Tryz.func52, Tryz.ntmps52
    go_wp2
    go_ret
    exact ⟨rfl, rfl⟩
  by_cases h2 : 40 < (s.size : Int)
  · have hf : Pl.nameB s.data.toList = false := Pl.nameB_long (by rw [← Lib.size_eq]; omega)
    rw [hf]; clear hf
    go_enter Tryz.func52, Tryz.ntmps52
    go_wp2
    go_ret
    exact ⟨rfl, rfl⟩
  cases h3 : s.toList == [46] with
  | true =>
    have hf : Pl.nameB s.data.toList = false := Pl.nameB_dot (by rw [← Lib.toList_data]; simpa using h3)
    rw [hf]; clear hf
    go_enter Tryz.func52, Tryz.ntmps52
    go_wp2
    go_ret
    exact ⟨rfl, rfl⟩
  | false =>
  cases h4 : s.toList == [46, 46] with
  | true =>
    have hf : Pl.nameB s.data.toList = false := Pl.nameB_dots (by rw [← Lib.toList_data]; simpa using h4)
    rw [hf]; clear hf
    go_enter Tryz.func52, Tryz.ntmps52
    go_wp2
    go_ret
    exact ⟨rfl, rfl⟩
  | false =>
  have hf : Pl.nameB s.data.toList = s.data.toList.all Pl.byteB := Pl.nameB_rest (by intro e; have := congrArg List.length e; rw [← Lib.size_eq] at this; have h0 : s.size = 0 := this; omega) (by rw [← Lib.size_eq]; omega) (by rw [← Lib.toList_data]; simpa using h3) (by rw [← Lib.toList_data]; simpa using h4)
  rw [hf]; clear hf
  have h2' : ¬ 40 < (s.size : Int) := h2
  obtain ⟨r, hr⟩ : ∃ r, r = s.data.toList.all Pl.byteB := ⟨_, rfl⟩
  rw [← hr]
  have HR : Hid (r = s.data.toList.all Pl.byteB) := hr
  clear hr
  go_enter Tryz.func52, Tryz.ntmps52
  go_wp2
  go_loop [3] (fun i => ∃ k : Nat, k ≤ s.size ∧ i = .int .i64 k ∧ (s.data.toList.take k).all Pl.byteB = true) (fun i => s.size - (intOf i).toNat)
  case atStart => exact ⟨0, Nat.zero_le _, rfl, rfl⟩
  case round =>
    obtain ⟨k, hk, rfl, hall⟩ := hrel
    have HA : Hid ((s.data.toList.take k).all Pl.byteB = true) := hall
    clear hall
    by_cases hlt : k < s.size
    · have hts := take_snoc s k hlt
      have HS : Hid (s.data.toList.take (k + 1) = s.data.toList.take k ++ [s[k]]) := hts
      have HM : Hid (s[k] ∈ s.data.toList) := List.mem_of_mem_take (i := k + 1) (by rw [hts]; simp)
      clear hts
      have hlt' : (k : Int) < s.size := by omega
      by_cases b1 : (s[k].toNat : Int) < 33
      · go_wp2
        go_ret
        exact ⟨ret_bool (by rw [HR.out]; exact (Pl.all_no HM.out (Pl.byteB_low b1)).symm), rfl⟩
      by_cases b2 : (126 : Int) < s[k].toNat
      · go_wp2
        go_ret
        exact ⟨ret_bool (by rw [HR.out]; exact (Pl.all_no HM.out (Pl.byteB_high b2)).symm), rfl⟩
      cases b3 : (s[k].toNat : Int) == 47 with
      | true =>
        go_wp2
        go_ret
        exact ⟨ret_bool (by rw [HR.out]; exact (Pl.all_no HM.out (Pl.byteB_slash b3)).symm), rfl⟩
      | false =>
        go_wp2
        go_round
        case rel => exact ⟨k + 1, by omega, by go_num, by rw [HS.out, List.all_append, HA.out]; simp [Pl.byteB_yes (by omega) (by omega) b3]⟩
        case measure => simp [intOf]; omega
    · go_wp2
      go_ret
      exact ⟨ret_bool (by have := HA.out; rw [List.take_of_length_le (by simp; omega)] at this; rw [HR.out]; exact this.symm), rfl⟩

theorem of_take (xs : List ByteArray) (k : Nat) (x : ByteArray) (h : xs[k]? = some x) : Pl.of ((xs.map (·.data.toList)).take (k + 1)) = Pl.of ((xs.map (·.data.toList)).take k) ++ 47 :: x.data.toList := by
  rw [names_take xs k x h, Pl.of_append]; simp [Pl.of]

theorem of_mono (l : List (List UInt8)) (k : Nat) : (Pl.of (l.take k)).length ≤ (Pl.of l).length := by
  conv => rhs; rw [← List.take_append_drop k l, Pl.of_append, List.length_append]
  omega


end Go.Proofs.YtjimemnkmpapgaaGreatDoor.Pa
namespace Go.Proofs.YtjimemnkmpapgaaGreatDoor.Pa
open Go.RowKit

theorem infoString : (Tryz.prog.info? 9).map (fun i => (i.zero, i.size, i.bytes)) = some (some (.string ⟨#[]⟩), 1, 16) := by kernel_rfl

theorem strs_oneCell (xs : List ByteArray) : ∀ u ∈ xs.map Value.string, u.oneCell' = true := by
  intro u hu
  obtain ⟨x, _, rfl⟩ := List.mem_map.1 hu
  rfl

/-- One byte more that is no slash. -/
theorem cut_more {B : Nat} {w wr : World} {g m cap : Nat} {ys : List ByteArray} {y : ByteArray} {z : ByteArray} (hown : wr.ownsRow B 9 1 (.slice (some ⟨g, 0, none⟩) (m + 1) cap) (m + 1) ((ys ++ [y]).map Value.string)) (hm : ys.length = m) (hB : B ≤ g) (hb : Below B w wr) :
    (wr.setCell ⟨g, m, none⟩ (.string z)).ownsRow B 9 1 (.slice (some ⟨g, 0, none⟩) (m + 1) cap) (m + 1) ((ys ++ [z]).map Value.string) ∧ Below B w (wr.setCell ⟨g, m, none⟩ (.string z)) := by
  refine ⟨?_, hb.setCell (by exact hB) _⟩
  have h := (hown.stored m (.string z)).1
  have e : ((ys ++ [y]).map Value.string).set m (.string z) = (ys ++ [z]).map Value.string := by
    subst hm
    simp
  rwa [e] at h

theorem own_form {w : World} {base n : Nat} {v : Value} {xs : List Value} (h : w.ownsRow base 9 1 v n xs) (hn : 1 ≤ n) : ∃ g cap, v = .slice (some ⟨g, 0, none⟩) n cap ∧ base ≤ g ∧ g < w.heap.size ∧ n ≤ cap := by
  rcases h.2 with ⟨_, h0⟩ | ⟨g, cap, cur, hv, hb, hg, hnc, _⟩
  · omega
  · exact ⟨g, cap, hv, hb, (Array.getElem?_eq_some_iff.1 hg).1, hnc⟩

theorem xs_last {xs : List ByteArray} (h : 1 ≤ xs.length) : ∃ ys y, xs = ys ++ [y] := by
  have hne : xs ≠ [] := by intro e; rw [e] at h; simp at h
  exact ⟨xs.dropLast, xs.getLast hne, (List.dropLast_concat_getLast hne).symm⟩

theorem one_byte (s : ByteArray) (k : Nat) (h : k < s.size) : (s.extract k (k + 1)).data.toList = [s[k]] := by
  rw [Lib.extract_data, Nat.add_sub_cancel_left]
  rw [List.drop_eq_getElem_cons (by rw [sz_list]; exact h)]
  rfl

theorem cut_names (ys : List ByteArray) (y s : ByteArray) (k : Nat) (h : k < s.size) : (ys ++ [y ++ s.extract k (k + 1)]).map (·.data.toList) = ys.map (·.data.toList) ++ [y.data.toList ++ [s[k]]] := by
  rw [List.map_append, ← one_byte s k h, ← data_append]; rfl

set_option maxRecDepth 20000 in
set_option maxHeartbeats 1000000 in
theorem cut_any (s : ByteArray) (w : World) (hs : s.size ≤ 1000) :
    Calls Tryz.prog 104 #[.string s, .int .u8 47] w fun e w' => ∃ (v : Value) (xs : List ByteArray), e = .returned v ∧ w'.ownsRow w.heap.size 9 1 v xs.length (xs.map Value.string) ∧ xs.map (·.data.toList) = Pl.spl s.data.toList ∧ Below w.heap.size w w' := by
  obtain ⟨i0, hi, hz0, hz1, hz2⟩ := info_parts infoString
  go_enter Tryz.func104, Tryz.ntmps104
  go_wp2
  go_loopw [5, 6] (fun v i wr => ∃ (k : Nat) (xs : List ByteArray), k ≤ s.size ∧ i = .int .i64 k ∧ wr.ownsRow w.heap.size 9 1 v xs.length (xs.map Value.string) ∧ xs.map (·.data.toList) = Pl.spl (s.data.toList.take k) ∧ Below w.heap.size w wr) (fun _ i _ => s.size - (intOf i).toNat)
  case atStart => exact ⟨0, [⟨#[]⟩], Nat.zero_le _, rfl, World.ownsRow_lit w #[.string ⟨#[]⟩] 1 (Nat.le_refl _) (by decide) rfl, rfl, (Below.refl _ _).alloc (Nat.le_refl _) _⟩
  case round =>
    obtain ⟨k, xs, hk, rfl, hown, hxs, hb⟩ := hrel
    have HX : Hid (xs.map (·.data.toList) = Pl.spl (s.data.toList.take k)) := hxs
    have hlen : xs.length ≤ 1001 ∧ 1 ≤ xs.length := by
      have h1 := congrArg List.length hxs
      rw [List.length_map, Pl.spl_length] at h1
      have h2 := List.count_le_length (a := (47 : UInt8)) (l := s.data.toList.take k)
      rw [List.length_take, sz_list] at h2
      omega
    have HB : Hid (Below w.heap.size w wr) := hb
    obtain ⟨g, cap, rfl, hBg, hgs, hnc⟩ := own_form hown hlen.2
    obtain ⟨ys, y, rfl⟩ := xs_last hlen.2
    obtain ⟨m, hm⟩ : ∃ m, ys.length = m := ⟨_, rfl⟩
    have hl : (ys ++ [y]).length = m + 1 := by rw [List.length_append, hm]; rfl
    rw [hl] at hown hlen hnc ⊢
    have HO : Hid (wr.ownsRow w.heap.size 9 1 (.slice (some ⟨g, 0, none⟩) (m + 1) cap) (m + 1) ((ys ++ [y]).map Value.string)) := hown
    have HM : Hid (ys.length = m) := hm
    have hcell : wr.cell? ⟨g, m, none⟩ = some (.string y) := by
      rw [hown.cellAt m (by omega)]
      subst hm
      simp
    have hfr : wr.frozen? ⟨g, m, none⟩ = false := hown.frozenAt m
    have hy : y.size ≤ 1000 := by
      have h1 : y.data.toList ∈ Pl.spl (s.data.toList.take k) := by rw [← HX.out]; simp
      have h2 := Pl.spl_short _ _ h1
      rw [List.length_take, sz_list, sz_list] at h2
      omega
    have hm1 : m ≤ 1000 := by omega
    clear hxs hb hown hm hl hlen
    by_cases hlt : k < s.size
    · have hts := take_snoc s k hlt
      have HT : Hid (s.data.toList.take (k + 1) = s.data.toList.take k ++ [s[k]]) := hts
      clear hts
      have hlt' : (k : Int) < s.size := by omega
      cases b3 : (s[k].toNat : Int) == 47 with
      | true =>
        have HC : Hid (s[k] = 47) := UInt8.toNat_inj.1 (by have := beq_iff_eq.1 b3; simp; omega)
        go_wp2_with (at_builtin; refine wpList_append_own _ rfl _ _ 46 rfl w.heap.size 9 i0 (.string ⟨#[]⟩) 1 16 Tryz.underlying46 hi hz0 hz1 hz2 rfl (by decide) _ _ _ rfl (HO.out.alloc _) ⟨wr.heap.size, 0, none⟩ 1 1 [.string ⟨#[]⟩] rfl rfl ?c1 ?c2 ?c3 ?c4 ?c5 ?_)
        case c1 =>
          intro j u hj
          match j, hj with
          | 0, hj => simp at hj; subst hj; simp [Addr.add]
        case c2 => intro u hu; simp at hu; subst hu; rfl
        case c3 => unfold maxLen; omega
        case c4 => omega
        case c5 => have := HB.out.size; simp; omega
        · intro v' w1 hown' hgrow _
          have HO' : Hid (w1.ownsRow w.heap.size 9 1 v' (m + 1 + 1) ((ys ++ [y, ⟨#[]⟩]).map Value.string)) := by
            have h : w1.ownsRow w.heap.size 9 1 v' (m + 1 + 1) ((ys ++ [y, ⟨#[]⟩]).map Value.string) := by simpa using hown'
            exact h
          have HB' : Hid (Below w.heap.size w w1) := (HB.out.alloc HB.out.size _).grown hgrow (by have := HB.out.size; simp; omega) (fun b hb => by simp [Value.ownBlock] at hb; omega)
          clear hown' hgrow
          go_wp2
          go_roundw
          case rel => exact ⟨k + 1, ys ++ [y, ⟨#[]⟩], by omega, by go_num, by rw [List.length_append, HM.out]; exact HO'.out, by rw [HT.out, HC.out, Pl.spl_snoc_slash, ← HX.out]; simp, HB'.out⟩
          case measure => simp [intOf]; omega
      | false =>
        have HC : Hid (s[k] ≠ 47) := by intro e; rw [e] at b3; cases b3
        have hk0 : (0 : Int) ≤ (k : Int) := by omega
        have hk1 : (k : Int) + 1 ≤ (s.size : Int) := by omega
        have hmi : (m : Int) < ((m + 1 : Nat) : Int) := by omega
        go_wp2
        go_region
        go_wp2
        go_roundw
        case rel =>
          have hz := cut_more (z := y ++ s.extract k (k + 1)) HO.out HM.out hBg HB.out
          exact ⟨k + 1, ys ++ [y ++ s.extract k (k + 1)], by omega, by go_num, by rw [List.length_append, HM.out]; exact hz.1, by rw [HT.out, Pl.spl_snoc_other HC.out _ (ys.map (·.data.toList)) y.data.toList (by rw [← HX.out]; simp)]; exact cut_names ys y s k hlt, hz.2.drew⟩
        case measure => simp [intOf]; omega
    · go_wp2
      go_ret
      exact ⟨_, ys ++ [y], rfl, by rw [List.length_append, HM.out]; exact HO.out, by rw [HX.out, List.take_of_length_le (by rw [sz_list]; omega)], HB.out⟩

end Go.Proofs.YtjimemnkmpapgaaGreatDoor.Pa
namespace Go.Proofs.YtjimemnkmpapgaaGreatDoor.Pa
open Go.RowKit

theorem ret_slice {a : Option Addr} {n m c : Nat} (h : n = m) : Ending.returned (.slice a n c) = .returned (.slice a m c) := by rw [h]

/-- What Parts tells, the program's or the reference's. -/
def PartsPost (p : ByteArray) (w : World) (e : Ending) (w' : World) : Prop :=
  (Pl.goodB p.data.toList = true ∧ ∃ (g cap : Nat) (xs : List ByteArray), e = .returned (.slice (some ⟨g, 0, none⟩) xs.length cap) ∧ xs.length ≤ cap ∧ xs.map (·.data.toList) = Pl.parts p.data.toList ∧ Row w w' g xs) ∨
  (Pl.goodB p.data.toList = false ∧ e = .returned (.slice none 0 0) ∧ Below w.heap.size w w')

theorem head_eq (p : ByteArray) (h : 0 < p.size) : Lib.hasPrefix p.data.toList [47] = (p[0] == 47) := by
  obtain ⟨⟨l⟩⟩ := p
  cases l with
  | nil => exact absurd h (by decide)
  | cons c r =>
    show List.isPrefixOf [47] (c :: r) = (c == 47)
    rw [List.isPrefixOf_cons_cons]
    by_cases hc : c = 47
    · subst hc; rfl
    · have h1 : (47 == c) = false := by rw [beq_eq_false_iff_ne]; exact fun e => hc e.symm
      have h2 : (c == 47) = false := by rw [beq_eq_false_iff_ne]; exact hc
      rw [h1, h2]; rfl

theorem good_two {p : List UInt8} (h : Pl.goodB p = true) : 2 ≤ p.length := by
  obtain ⟨e, hn, _⟩ := Pl.good_parts h
  have h1 := Pl.namesB_len hn
  rw [e]
  match hl : Pl.parts p, h1 with
  | n :: t, _ =>
    rw [hl] at hn
    unfold Pl.namesB Pl.nameB at hn
    simp only [Bool.and_eq_true, decide_eq_true_eq, List.all_cons] at hn
    have := hn.2.1.1.1.1.1
    simp only [Pl.of, List.length_cons, List.length_append]
    omega

set_option maxRecDepth 20000 in
set_option maxHeartbeats 1000000 in
theorem refParts_any (p : ByteArray) (w : World) (hp : p.size ≤ maxLen) :
    Calls Tryz.prog 81 #[.string p] w (PartsPost p w) := by
  unfold maxLen at hp
  by_cases h1 : (p.size : Int) < 2
  · have HG : Hid (Pl.goodB p.data.toList = false) := by
      show Pl.goodB p.data.toList = false
      cases hg : Pl.goodB p.data.toList with
      | false => rfl
      | true => have := good_two hg; rw [sz_list] at this; omega
    go_enter Tryz.func81, Tryz.ntmps81
    go_wp2
    go_ret
    exact Or.inr ⟨HG.out, rfl, Below.refl _ _⟩
  by_cases h2 : 200 < (p.size : Int)
  · have HG : Hid (Pl.goodB p.data.toList = false) := Pl.good_long (by rw [sz_list]; omega)
    go_enter Tryz.func81, Tryz.ntmps81
    go_wp2
    go_ret
    exact Or.inr ⟨HG.out, rfl, Below.refl _ _⟩
  have h0 : 0 < p.size := by omega
  have h0' : (0 : Int) < p.size := by omega
  cases h3 : (p[0].toNat : Int) != 47 with
  | true =>
    have HG : Hid (Pl.goodB p.data.toList = false) := Pl.good_head (by
      rw [head_eq p h0, beq_eq_false_iff_ne]
      intro e; rw [e] at h3; cases h3)
    go_enter Tryz.func81, Tryz.ntmps81
    go_wp2
    go_ret
    exact Or.inr ⟨HG.out, rfl, Below.refl _ _⟩
  | false =>
  have hpre : Lib.hasPrefix p.data.toList [47] = true := by
    rw [head_eq p h0, beq_iff_eq]
    exact UInt8.toNat_inj.1 (by rw [bne_eq_false_iff_eq] at h3; simp; omega)
  have HGE : Hid (Pl.goodB p.data.toList = Pl.namesB (Pl.spl (p.data.toList.drop 1))) := Pl.good_rest (by rw [sz_list]; omega) hpre
  have hex : (p.extract 1 p.size).data.toList = p.data.toList.drop 1 := by rw [Lib.extract_to_end]
  have HE : Hid ((p.extract 1 p.size).data.toList = p.data.toList.drop 1) := hex
  have HZ : Hid ((p.extract 1 p.size).size ≤ 1000) := by
    show (p.extract 1 p.size).size ≤ 1000
    rw [← sz_list, hex, List.length_drop, sz_list]; omega
  clear hpre hex
  go_enter Tryz.func81, Tryz.ntmps81
  go_wp2_with fail
  refine (cut_any _ _ HZ.out).mono ?_
  rintro e w1 ⟨v, xs, rfl, hown, hxs, hb⟩
  rw [HE.out] at hxs
  have hlen := congrArg List.length hxs
  rw [List.length_map, Pl.spl_length] at hlen
  have hcl := List.count_le_length (a := (47 : UInt8)) (l := p.data.toList.drop 1)
  rw [List.length_drop, sz_list] at hcl
  obtain ⟨g, cap, rfl, hBg, hgs, hnc⟩ := own_form hown (by omega)
  obtain ⟨n, hn⟩ : ∃ n, n = xs.length := ⟨_, rfl⟩
  have HC : Hid (∀ (j : Nat) x, xs[j]? = some x → w1.cell? ⟨g, 0 + j, none⟩ = some (.string x)) := by
    intro j x hx
    rw [Nat.zero_add, hown.cellAt j (by have := (List.getElem?_eq_some_iff.1 hx).1; omega)]
    simp [hx]
  have HR : Hid (Row w w1 g xs) := ⟨HC.out, hBg, hgs, hb⟩
  have HX : Hid (xs.map (·.data.toList) = Pl.spl (p.data.toList.drop 1)) := hxs
  have HSZ : Hid (∀ x ∈ xs, x.size ≤ maxLen) := by
    intro x hx
    have h4 : x.data.toList ∈ Pl.spl (p.data.toList.drop 1) := by rw [← hxs]; exact List.mem_map_of_mem hx
    have h5 := Pl.spl_short _ _ h4
    rw [List.length_drop, sz_list, sz_list] at h5
    unfold maxLen; show x.size ≤ 2 ^ 63 - 1; omega
  have HN : Hid (n = xs.length) := hn
  have hn1 : 1 ≤ n := by omega
  have hn200 : n ≤ 1000 := by omega
  have HNC : Hid (xs.length ≤ cap) := hnc
  rw [← hn] at hnc ⊢
  clear hown hxs hlen hcl hb hn hgs
  by_cases h8 : 8 < (n : Int)
  · have HG : Hid (Pl.goodB p.data.toList = false) := by
      show Pl.goodB p.data.toList = false
      rw [HGE.out, ← HX.out, Pl.namesB_many (by rw [List.length_map, ← HN.out]; omega)]
    go_wp2
    go_ret
    exact Or.inr ⟨HG.out, rfl, HR.out.below⟩
  have HF : Hid (Pl.goodB p.data.toList = (xs.map (·.data.toList)).all Pl.nameB) := by
    show Pl.goodB p.data.toList = _
    rw [HGE.out, ← HX.out, Pl.namesB_rest (by rw [List.length_map, ← HN.out]; omega) (by rw [List.length_map, ← HN.out]; omega)]
  go_wp2_with fail
  go_loop [4] (fun i => ∃ k : Nat, k ≤ n ∧ i = .int .i64 k ∧ ((xs.map (·.data.toList)).take k).all Pl.nameB = true) (fun i => n - (intOf i).toNat)
  case atStart => exact ⟨0, Nat.zero_le _, rfl, rfl⟩
  case round =>
    obtain ⟨k, hk, rfl, hall⟩ := hrel
    have HA : Hid (((xs.map (·.data.toList)).take k).all Pl.nameB = true) := hall
    clear hall
    by_cases hlt : k < n
    · obtain ⟨x, hx⟩ : ∃ x, xs[k]? = some x := ⟨xs[k]'(by rw [← HN.out]; exact hlt), List.getElem?_eq_getElem _⟩
      have hcell := HC.out k x hx
      rw [Nat.zero_add] at hcell
      have HXS : Hid (x.size ≤ maxLen) := HSZ.out x (List.mem_of_getElem? hx)
      have HS : Hid ((xs.map (·.data.toList)).take (k + 1) = (xs.map (·.data.toList)).take k ++ [x.data.toList]) := names_take xs k x hx
      have HM : Hid (x.data.toList ∈ xs.map (·.data.toList)) := List.mem_map_of_mem (List.mem_of_getElem? hx)
      clear hx
      have hlt' : (k : Int) < n := by omega
      cases hb : Pl.nameB x.data.toList with
      | false =>
        have HB : Hid (Pl.nameB x.data.toList = false) := hb
        clear hb
        go_wp2_with (go_at_call 52; refine (isName_any x _ HXS.out).mono ?_; rintro e w' ⟨rfl, hw⟩; rw [hw, HB.out]; clear hw w')
        go_ret
        exact Or.inr ⟨by rw [HF.out]; exact Pl.names_no HM.out HB.out, rfl, HR.out.below⟩
      | true =>
        have HB : Hid (Pl.nameB x.data.toList = true) := hb
        clear hb
        go_wp2_with (go_at_call 52; refine (isName_any x _ HXS.out).mono ?_; rintro e w' ⟨rfl, hw⟩; rw [hw, HB.out]; clear hw w')
        go_round
        case rel => exact ⟨k + 1, by omega, by go_num, by rw [HS.out, List.all_append, HA.out]; simp [HB.out]⟩
        case measure => simp [intOf]; omega
    · have HG : Hid (Pl.goodB p.data.toList = true) := by
        show Pl.goodB p.data.toList = true
        have := HA.out
        rw [List.take_of_length_le (by rw [List.length_map, ← HN.out]; omega)] at this
        rw [HF.out]; exact this
      go_wp2
      go_ret
      exact Or.inl ⟨HG.out, g, cap, xs, ret_slice HN.out, HNC.out, by rw [HX.out]; unfold Pl.parts; rw [HG.out]; rfl, HR.out⟩

set_option maxRecDepth 20000 in
set_option maxHeartbeats 400000 in
theorem refGood_any (p : ByteArray) (w : World) (hp : p.size ≤ maxLen) :
    Calls Tryz.prog 79 #[.string p] w fun e w' => e = .returned (.bool (Pl.goodB p.data.toList)) ∧ Below w.heap.size w w' := by
  have HP : Hid (p.size ≤ maxLen) := hp
  clear hp
  go_enter Tryz.func79, Tryz.ntmps79
  go_wp2_with fail
  refine (refParts_any p _ HP.out).mono ?_
  rintro e w1 (⟨hg, g, cap, xs, rfl, _, hxs, hrow⟩ | ⟨hg, rfl, hb⟩)
  · have hn := parts_len hg
    rw [← hxs, List.length_map] at hn
    obtain ⟨n, en⟩ : ∃ n, n = xs.length := ⟨_, rfl⟩
    rw [← en] at hn ⊢
    obtain ⟨h1, h8⟩ := hn
    have h0 : (0 : Int) < n := by omega
    have HG : Hid (Pl.goodB p.data.toList = true) := hg
    have HB : Hid (Below w.heap.size w w1) := hrow.below
    clear hg hxs hrow en
    go_wp2
    go_ret
    exact ⟨ret_bool (by rw [HG.out]; exact decide_eq_true (show 0 < n by omega)), HB.out⟩
  · have HG : Hid (Pl.goodB p.data.toList = false) := hg
    have HB : Hid (Below w.heap.size w w1) := hb
    clear hg hb
    go_wp2
    go_ret
    exact ⟨ret_bool HG.out.symm, HB.out⟩

end Go.Proofs.YtjimemnkmpapgaaGreatDoor.Pa
namespace Go.Proofs.YtjimemnkmpapgaaGreatDoor.Pa
open Go.RowKit

theorem refParts_good (p : ByteArray) (w : World) (hg : Pl.goodB p.data.toList = true) :
    Calls Tryz.prog 81 #[.string p] w fun e w' => ∃ (g cap : Nat) (xs : List ByteArray), e = .returned (.slice (some ⟨g, 0, none⟩) xs.length cap) ∧ xs.length ≤ cap ∧ xs.map (·.data.toList) = Pl.parts p.data.toList ∧ Row w w' g xs := by
  have hsz := (Pl.good_parts hg).2.2
  rw [sz_list] at hsz
  refine (refParts_any p w (by unfold maxLen; show p.size ≤ 2 ^ 63 - 1; omega)).mono ?_
  rintro e w' (⟨_, h⟩ | ⟨h, _⟩)
  · exact h
  · rw [hg] at h; cases h

theorem refParts_bad (p : ByteArray) (w : World) (hp : p.size ≤ maxLen) (hg : Pl.goodB p.data.toList = false) :
    Calls Tryz.prog 81 #[.string p] w fun e w' => e = .returned (.slice none 0 0) ∧ Below w.heap.size w w' := by
  refine (refParts_any p w hp).mono ?_
  rintro e w' (⟨h, _⟩ | ⟨_, h⟩)
  · rw [hg] at h; cases h
  · exact h



set_option maxRecDepth 20000 in
set_option maxHeartbeats 400000 in
theorem refTop_any (p : ByteArray) (w : World) (hg : Pl.goodB p.data.toList = true) :
    Calls Tryz.prog 82 #[.string p] w fun e w' => ∃ x : ByteArray, e = .returned (.string x) ∧ x.data.toList = Pl.top p.data.toList ∧ Below w.heap.size w w' := by
  have HG : Hid (Pl.goodB p.data.toList = true) := hg
  obtain ⟨nm, hnm⟩ : ∃ nm, nm = Pl.top p.data.toList := ⟨_, rfl⟩
  rw [← hnm]
  have HM : Hid (nm = Pl.top p.data.toList) := hnm
  clear hg hnm
  go_enter Tryz.func82, Tryz.ntmps82
  go_wp2_with fail
  refine (refParts_good p _ HG.out).mono ?_
  rintro e w1 ⟨g, cap, xs, rfl, hnc, hxs, hrow⟩
  have hn : 1 ≤ xs.length ∧ xs.length ≤ 8 := by
    have := parts_len HG.out
    rw [← hxs, List.length_map] at this
    exact this
  obtain ⟨k, hk⟩ : ∃ k, xs.length = k + 1 := ⟨xs.length - 1, by omega⟩
  have hc := row_at hrow 0 (by omega)
  have hx := first_at hxs hk
  obtain ⟨x, ex⟩ : ∃ x, x = xs[0]'(by omega) := ⟨_, rfl⟩
  rw [← ex] at hc hx
  have HX : Hid (x.data.toList = (Pl.parts p.data.toList).head?.getD []) := hx
  have HB : Hid (Below w.heap.size w w1) := hrow.below
  have hk8 : k ≤ 7 := by omega
  rw [hk] at hnc ⊢
  clear hxs hx ex hrow hn hk
  have h0 : (((k + 1 : Nat) : Int) == 0) = false := by rw [beq_eq_false_iff_ne]; omega
  go_wp2
  go_ret
  exact ⟨x, rfl, by rw [HX.out, HM.out]; rfl, HB.out⟩

set_option maxRecDepth 20000 in
set_option maxHeartbeats 400000 in
theorem refTop_bad (p : ByteArray) (w : World) (hp : p.size ≤ maxLen) (hg : Pl.goodB p.data.toList = false) :
    Calls Tryz.prog 82 #[.string p] w fun e w' => e = .returned (.string ⟨#[]⟩) ∧ Below w.heap.size w w' := by
  have HP : Hid (p.size ≤ maxLen) := hp
  have HG : Hid (Pl.goodB p.data.toList = false) := hg
  clear hp hg
  go_enter Tryz.func82, Tryz.ntmps82
  go_wp2_with fail
  refine (refParts_bad p _ HP.out HG.out).mono ?_
  rintro e w1 ⟨rfl, hb⟩
  go_wp2
  go_ret
  exact ⟨rfl, hb⟩



end Go.Proofs.YtjimemnkmpapgaaGreatDoor.Pa
namespace Go.Proofs.YtjimemnkmpapgaaGreatDoor.Pa
open Go.RowKit

set_option maxRecDepth 20000 in
set_option maxHeartbeats 400000 in
theorem same_nil (w : World) :
    Calls Tryz.prog 63 #[.slice none 0 0, .slice none 0 0] w fun e w' => e = .returned (.bool true) ∧ Below w.heap.size w w' := by
  go_enter Tryz.func63, Tryz.ntmps63
  go_wp2
  go_loop [5] (fun i => i = .int .i64 0) (fun _ => 0)
  case atStart => rfl
  case round =>
    obtain rfl := hrel
    go_wp2
    go_ret
    exact ⟨rfl, Below.refl _ _⟩

set_option maxRecDepth 20000 in
set_option maxHeartbeats 1000000 in
theorem same_rows (xs : List ByteArray) (g h c d : Nat) (w : World) (hn : xs.length ≤ 8) (hg : ∀ (j : Nat) x, xs[j]? = some x → w.cell? ⟨g, 0 + j, none⟩ = some (.string x)) (hh : ∀ (j : Nat) x, xs[j]? = some x → w.cell? ⟨h, 0 + j, none⟩ = some (.string x)) (hgl : g < w.heap.size) (hhl : h < w.heap.size) :
    Calls Tryz.prog 63 #[.slice (some ⟨g, 0, none⟩) xs.length c, .slice (some ⟨h, 0, none⟩) xs.length d] w fun e w' => e = .returned (.bool true) ∧ Below w.heap.size w w' := by
  have HG : Hid (∀ (j : Nat) x, xs[j]? = some x → w.cell? ⟨g, 0 + j, none⟩ = some (.string x)) := hg
  have HH : Hid (∀ (j : Nat) x, xs[j]? = some x → w.cell? ⟨h, 0 + j, none⟩ = some (.string x)) := hh
  have HGL : Hid (g < w.heap.size) := hgl
  have HHL : Hid (h < w.heap.size) := hhl
  obtain ⟨n, en⟩ : ∃ n, n = xs.length := ⟨_, rfl⟩
  have HN : Hid (n = xs.length) := en
  rw [← en] at hn ⊢
  clear hg hh en hgl hhl
  have hne : ((n : Int) != (n : Int)) = false := by simp
  go_enter Tryz.func63, Tryz.ntmps63
  go_wp2
  go_loopw [5] (fun i wr => ∃ k : Nat, k ≤ n ∧ i = .int .i64 k ∧ Below w.heap.size w wr) (fun i _ => n - (intOf i).toNat)
  case atStart => exact ⟨0, Nat.zero_le _, rfl, Below.refl _ _⟩
  case round =>
    obtain ⟨k, hk, rfl, hb⟩ := hrel
    have HB : Hid (Below w.heap.size w wr) := hb
    clear hb
    by_cases hlt : k < n
    · obtain ⟨x, hx⟩ : ∃ x, xs[k]? = some x := ⟨xs[k]'(by rw [← HN.out]; exact hlt), List.getElem?_eq_getElem _⟩
      have c1 : wr.cell? ⟨g, k, none⟩ = some (.string x) := by
        have h1 := HG.out k x hx
        rw [Nat.zero_add] at h1
        rw [HB.out.cell (p := ⟨g, k, none⟩) HGL.out]; exact h1
      have c2 : wr.cell? ⟨h, k, none⟩ = some (.string x) := by
        have h1 := HH.out k x hx
        rw [Nat.zero_add] at h1
        rw [HB.out.cell (p := ⟨h, k, none⟩) HHL.out]; exact h1
      clear hx
      have hlt' : (k : Int) < n := by omega
      have hk0 : (0 : Int) ≤ k := by omega
      go_wp2
      go_region
      go_wp2
      go_roundw
      case rel => exact ⟨k + 1, by omega, by go_num, HB.out.drew⟩
      case measure => simp [intOf]; omega
    · go_wp2
      go_ret
      exact ⟨rfl, HB.out⟩


end Go.Proofs.YtjimemnkmpapgaaGreatDoor.Pa
namespace Go.Proofs.YtjimemnkmpapgaaGreatDoor.Pa
open Go.RowKit

theorem conv_one (W : World) (b : Nat) (z : Int) (h : W.cell? ⟨b, 0, none⟩ = some (.int .u8 z)) :
    (convert 160 9 (.slice (some ⟨b, 0, none⟩) 1 1)).run Tryz.prog W = .ok (.string (strOfNums [z])) W :=
  run_convert_bytes_arg W 160 5 Tryz.underlying160 Tryz.underlying5 b 0 1 1 [z] rfl (fun i hi => by
    obtain rfl : i = 0 := by omega
    exact h) 9 Tryz.underlying9

theorem conv_new (W : World) (z : Int) :
    (convert 160 9 (.slice (some ⟨W.heap.size, 0, none⟩) 1 1)).run Tryz.prog (W.alloc (.cells #[.int .u8 z] 5)) = .ok (.string (strOfNums [z])) (W.alloc (.cells #[.int .u8 z] 5)) :=
  conv_one _ _ z (by simp)

theorem nums_data (n : Nat) : (strOfNums [48 + (n : Int)]).data.toList = [UInt8.ofNat (48 + n)] := by
  have : (48 + (n : Int)).toNat = 48 + n := by omega
  simp [strOfNums, this]

set_option maxRecDepth 20000 in
set_option maxHeartbeats 400000 in
theorem digits_small (n : Nat) (w : World) (hn : n < 10) :
    Calls Tryz.prog 103 #[.int .u64 n] w fun e w' => ∃ x : ByteArray, e = .returned (.string x) ∧ x.data.toList = Lib.decDigits n ∧ Below w.heap.size w w' := by
  have h1 : (n : Int) < 10 := by omega
  have hcv := conv_new
  go_enter Tryz.func103, Tryz.ntmps103
  go_wp2
  go_ret
  exact ⟨_, rfl, by rw [nums_data, Lib.decDigits_one hn], (Below.refl _ _).alloc (Nat.le_refl _) _⟩

theorem wrap_div (n : Nat) (h : n ≤ 2147483647) : IntKind.u64.wrap ((n : Int) / 10) = ((n / 10 : Nat) : Int) := by
  rw [IntKind.wrap_u64]
  omega

theorem wrap_mod (n : Nat) : IntKind.u8.wrap (IntKind.u64.wrap (48 + (n : Int).tmod 10)) = 48 + ((n % 10 : Nat) : Int) := by
  rw [Int.tmod_eq_emod_of_nonneg (by omega), IntKind.wrap_u64, IntKind.wrap_u8]
  omega

theorem below_alloc_drew {w w' : World} {o : Obj} (h : Below (w.alloc o).drew.heap.size (w.alloc o).drew w') : Below w.heap.size w w' :=
  ((Below.refl w.heap.size w).alloc (Nat.le_refl _) o).drew.trans (h.mono (by simp))

theorem digits_fin {n : Nat} {x : ByteArray} (hn : ¬ n < 10) (hx : x.data.toList = Lib.decDigits (n / 10)) : (x ++ strOfNums [48 + (n : Int) % 10]).data.toList = Lib.decDigits n := by
  have e : 48 + (n : Int) % 10 = 48 + ((n % 10 : Nat) : Int) := by omega
  rw [data_append, hx, e, nums_data]
  conv => rhs; rw [Lib.decDigits, dif_neg hn]

set_option maxRecDepth 20000 in
set_option maxHeartbeats 1000000 in
theorem digits_step (n : Nat) (w : World) (hn : ¬ n < 10) (hN : n ≤ 2147483647)
    (ih : ∀ (z : Int) w, z = ((n / 10 : Nat) : Int) → Calls Tryz.prog 103 #[.int .u64 z] w fun e w' => ∃ x : ByteArray, e = .returned (.string x) ∧ x.data.toList = Lib.decDigits (n / 10) ∧ Below w.heap.size w w') :
    Calls Tryz.prog 103 #[.int .u64 n] w fun e w' => ∃ x : ByteArray, e = .returned (.string x) ∧ x.data.toList = Lib.decDigits n ∧ Below w.heap.size w w' := by
  have h1 : ¬ (n : Int) < 10 := by omega
  have H : Hid (∀ (z : Int) w, z = ((n / 10 : Nat) : Int) → Calls Tryz.prog 103 #[.int .u64 z] w fun e w' => ∃ x : ByteArray, e = .returned (.string x) ∧ x.data.toList = Lib.decDigits (n / 10) ∧ Below w.heap.size w w') := ih
  have HD : Hid ((Lib.decDigits (n / 10)).length ≤ 10) := digits_le (by omega)
  clear ih
  have hcv := conv_one
  have hss : ∀ z : Int, (strOfNums [z]).size = 1 := fun z => strOfNums_size [z]
  go_enter Tryz.func103, Tryz.ntmps103
  go_wp2
  go_region_with (go_at_call 103; refine (H.out _ _ (wrap_div n hN)).mono ?_; rintro e w1 ⟨x, rfl, hx, hb⟩; have hxs : x.size ≤ 10 := (by rw [← sz_list, hx]; exact HD.out); have HX : Hid (x.data.toList = Lib.decDigits (n / 10)) := hx; clear hx; first | (have HB : Hid (Below w.heap.size w w1) := below_drew hb; clear hb) | (have hc1 := (hb.cell (p := ⟨w.heap.size, 0, none⟩) (by simp)).trans (by simp; rfl); have HB : Hid (Below w.heap.size w w1) := below_alloc_drew hb; clear hb))
  all_goals
    go_wp2
    go_ret
    exact ⟨_, rfl, digits_fin hn HX.out, by first | exact HB.out | exact HB.out.alloc HB.out.size _ | exact HB.out.drew | exact (HB.out.alloc HB.out.size _).drew⟩

theorem digits_any : ∀ (n : Nat), n ≤ 2147483647 → ∀ (z : Int) (w : World), z = (n : Int) → Calls Tryz.prog 103 #[.int .u64 z] w fun e w' => ∃ x : ByteArray, e = .returned (.string x) ∧ x.data.toList = Lib.decDigits n ∧ Below w.heap.size w w' := by
  intro n
  induction n using Nat.strongRecOn with
  | _ n ih =>
    intro hN z w hz
    subst hz
    by_cases hn : n < 10
    · exact digits_small n w hn
    · exact digits_step n w hn hN (ih (n / 10) (by omega) (by omega))

end Go.Proofs.YtjimemnkmpapgaaGreatDoor.Pa
namespace Go.Proofs.YtjimemnkmpapgaaGreatDoor.Pa
open Go.RowKit

def lenOf : Value → Nat
  | .string s => s.size
  | _ => 0

set_option maxRecDepth 20000 in
set_option maxHeartbeats 400000 in
theorem refNumber_no (p : ByteArray) (n : Int) (w : World) (hp : p.size ≤ maxLen) (hn : Pl.goodB p.data.toList = false ∨ n < 0 ∨ 2147483647 < n) :
    Calls Tryz.prog 80 #[.string p, .int .i64 n] w fun e w' => e = .returned (.tuple #[.string ⟨#[]⟩, .bool false]) ∧ Below w.heap.size w w' := by
  have HP : Hid (p.size ≤ maxLen) := hp
  clear hp
  cases hg : Pl.goodB p.data.toList with
  | false =>
    have HG : Hid (Pl.goodB p.data.toList = false) := hg
    clear hg hn
    go_enter Tryz.func80, Tryz.ntmps80
    go_wp2_with fail
    refine (refGood_any p _ HP.out).mono ?_
    rintro e w1 ⟨rfl, hb⟩
    rw [HG.out]
    have HB : Hid (Below w.heap.size w w1) := hb
    clear hb
    go_wp2
    go_ret2
    exact ⟨rfl, HB.out⟩
  | true =>
    have hn' : n < 0 ∨ 2147483647 < n := by
      rcases hn with h | h
      · rw [hg] at h; cases h
      · exact h
    have HG : Hid (Pl.goodB p.data.toList = true) := hg
    clear hg hn
    rcases hn' with hn | hn
    · go_enter Tryz.func80, Tryz.ntmps80
      go_wp2_with fail
      refine (refGood_any p _ HP.out).mono ?_
      rintro e w1 ⟨rfl, hb⟩
      rw [HG.out]
      have HB : Hid (Below w.heap.size w w1) := hb
      clear hb
      go_wp2
      go_ret2
      exact ⟨rfl, HB.out⟩
    · have hn0 : ¬ n < 0 := by omega
      go_enter Tryz.func80, Tryz.ntmps80
      go_wp2_with fail
      refine (refGood_any p _ HP.out).mono ?_
      rintro e w1 ⟨rfl, hb⟩
      rw [HG.out]
      have HB : Hid (Below w.heap.size w w1) := hb
      clear hb
      go_wp2
      go_ret2
      exact ⟨rfl, HB.out⟩

theorem zeros_more (k n : Nat) : List.replicate (k + 1) (48 : UInt8) ++ Lib.decDigits n = 48 :: (List.replicate k 48 ++ Lib.decDigits n) := by
  rw [List.replicate_succ]; rfl

set_option maxRecDepth 20000 in
set_option maxHeartbeats 1000000 in
theorem refNumber_any (p : ByteArray) (n : Nat) (w : World) (hg : Pl.goodB p.data.toList = true) (h1 : n ≤ 2147483647) :
    Calls Tryz.prog 80 #[.string p, .int .i64 n] w fun e w' => (∃ x : ByteArray, e = .returned (.tuple #[.string x, .bool true]) ∧ x.data.toList = p.data.toList ++ Pl.dig10 n ∧ Pl.goodB (p.data.toList ++ Pl.dig10 n) = true ∧ Below w.heap.size w w') ∨
      (e = .returned (.tuple #[.string ⟨#[]⟩, .bool false]) ∧ Pl.goodB (p.data.toList ++ Pl.dig10 n) = false ∧ Below w.heap.size w w') := by
  have HG : Hid (Pl.goodB p.data.toList = true) := hg
  have hsz := (Pl.good_parts hg).2.2
  rw [sz_list] at hsz
  have HP : Hid (p.size ≤ maxLen) := by unfold maxLen; show p.size ≤ 2 ^ 63 - 1; omega
  obtain ⟨t, ht⟩ : ∃ t, t = p.data.toList ++ Pl.dig10 n := ⟨_, rfl⟩
  rw [← ht]
  have HT : Hid (t = p.data.toList ++ Pl.dig10 n) := ht
  have HD : Hid ((Lib.decDigits n).length ≤ 10) := digits_le (by omega)
  clear hg ht
  have hn0 : ¬ (n : Int) < 0 := by omega
  have hn1 : ¬ 2147483647 < (n : Int) := by omega
  go_enter Tryz.func80, Tryz.ntmps80
  go_wp2_with fail
  refine (refGood_any p _ HP.out).mono ?_
  rintro e w1 ⟨rfl, hb⟩
  rw [HG.out]
  have HB : Hid (Below w.heap.size w w1) := hb
  clear hb
  go_wp2_with fail
  refine (digits_any n h1 _ _ rfl).mono ?_
  rintro e w2 ⟨x0, rfl, hx0, hb2⟩
  have HX0 : Hid (x0.data.toList = Lib.decDigits n) := hx0
  have HB2 : Hid (Below w.heap.size w w2) := HB.out.trans (hb2.mono HB.out.size)
  clear hx0 hb2
  go_wp2_with fail
  go_loop [6] (fun d => ∃ (k : Nat) (x : ByteArray), d = .string x ∧ x.size ≤ 10 ∧ x.data.toList = List.replicate k 48 ++ Lib.decDigits n) (fun d => 10 - lenOf d)
  case atStart => exact ⟨0, x0, rfl, by rw [← sz_list, HX0.out]; exact HD.out, by rw [HX0.out]; rfl⟩
  case round =>
    obtain ⟨k, x, rfl, hx10, hx⟩ := hrel
    have HX : Hid (x.data.toList = List.replicate k 48 ++ Lib.decDigits n) := hx
    clear hx
    by_cases hlt : (x.size : Int) < 10
    · go_wp2
      go_round
      case rel => exact ⟨k + 1, _, rfl, by rw [ByteArray.size_append]; show 1 + x.size ≤ 10; omega, by rw [data_append, HX.out, zeros_more]; rfl⟩
      case measure =>
        show 10 - ((⟨#[48]⟩ : ByteArray) ++ x).size < 10 - x.size
        rw [ByteArray.size_append]
        show 10 - (1 + x.size) < 10 - x.size
        omega
    · have hd : x.data.toList = Pl.dig10 n := by
        have h2 := congrArg List.length HX.out
        rw [sz_list, List.length_append, List.length_replicate] at h2
        rw [HX.out, Pl.dig10]
        congr 2
        omega
      have hdata : (p ++ x).data.toList = t := by rw [data_append, hd, HT.out]
      have HDA : Hid ((p ++ x).data.toList = t) := hdata
      have HZ : Hid ((p ++ x).size ≤ maxLen) := by
        show (p ++ x).size ≤ 2 ^ 63 - 1
        rw [ByteArray.size_append]; omega
      clear hd hdata
      go_wp2_with fail
      refine (refGood_any _ _ (by exact HZ.out)).mono ?_
      rintro e w4 ⟨rfl, hb4⟩
      rw [HDA.out]
      have HB4 : Hid (Below w.heap.size w w4) := HB2.out.trans (hb4.mono HB2.out.size)
      clear hb4
      cases hg2 : Pl.goodB t with
      | false =>
        have HG2 : Hid (Pl.goodB t = false) := hg2
        clear hg2
        go_wp2
        go_ret2
        exact Or.inr ⟨rfl, HG2.out, HB4.out⟩
      | true =>
        have HG2 : Hid (Pl.goodB t = true) := hg2
        clear hg2
        go_wp2
        go_ret2
        exact Or.inl ⟨_, rfl, HDA.out, HG2.out, HB4.out⟩

end Go.Proofs.YtjimemnkmpapgaaGreatDoor.Pa
