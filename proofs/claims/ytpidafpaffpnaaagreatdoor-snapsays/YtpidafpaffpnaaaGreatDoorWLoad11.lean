/- What the landed tree's goodNames, laid and Load do. -/
import Derived.Test.YtpidafpaffpnaaaGreatDoorWNd11
import Derived.Test.YtpidafpaffpnaaaGreatDoorLjr
namespace Go.Proofs.YtpidafpaffpnaaaGreatDoor.Tq
open Kq
theorem join_one (n : List UInt8) : Pl.joinB [n] = Pl.nameB n := by
  unfold Pl.joinB
  rw [Pl.namesB_rest (by simp) (by simp)]
  cases h : Pl.nameB n with
  | false => simp [h]
  | true =>
    have h1 : Pl.goodB (Pl.of [n]) = true := (Pl.good_iff _).2 ⟨[n], by rw [Pl.namesB_rest (by simp) (by simp)]; simp [h], rfl, by
      have := Pl.of_short [n] (by simp [h])
      simp at this ⊢
      omega⟩
    simp [h, h1]
/-- What Load asks of names. -/
def gnT (l : List ByteArray) : Prop := l.length ≤ 500 ∧ (∀ s ∈ l, Pl.nameB s.data.toList = true) ∧ Rises l
end Go.Proofs.YtpidafpaffpnaaaGreatDoor.Tq
namespace Go.Proofs.YtpidafpaffpnaaaGreatDoor
open Go.RowKit

set_option maxRecDepth 20000 in
set_option maxHeartbeats 4000000 in
theorem goodNames_any11 (u : Value) (ss : List ByteArray) (w : World) (h : Ss w u ss) (hS : Pa.Std w) (hN : ss.length ≤ 1000) (hz : ∀ s ∈ ss, s.size ≤ 20000) :
    Calls Tryz.prog 62 #[u] w (BoolP (Tq.gnT ss) w) := by
  obtain ⟨av, N, c, rfl, hk, hc⟩ := h
  have HC : Hid ((∀ (j : Nat) s, ss[j]? = some s → ∃ g o, av = some ⟨g, o, none⟩ ∧ w.cell? ⟨g, o + j, none⟩ = some (.string s)) ∧ N = ss.length ∧ Pa.Std w ∧ ∀ s ∈ ss, s.size ≤ 20000) := ⟨hc, hk, hS, hz⟩
  have hN1 : N ≤ 1000 := by omega
  clear hc hk hN hS hz
  by_cases h5 : 500 < N
  · have h5' : (500 : Int) < (N : Int) := by omega
    have HNO : Hid (¬ Tq.gnT ss) := fun h => by
      have := h.1
      have := HC.out.2.1
      omega
    go_enter Tryz.func62, Tryz.ntmps62
    go_wp2
    go_ret
    exact ⟨false, rfl, ⟨fun h => (by cases h), fun h => absurd h HNO.out⟩, Below.refl _ _⟩
  have h5' : ¬ (500 : Int) < (N : Int) := by omega
  go_enter Tryz.func62, Tryz.ntmps62
  go_wp2
  go_loopw [12] (fun i wr => ∃ k : Nat, k ≤ N ∧ i = .int .i64 (k : Int) ∧ Kq.Rises (ss.take k) ∧ (∀ s ∈ ss.take k, Pl.nameB s.data.toList = true) ∧ Below w.heap.size w wr) (fun i _ => N - (intOf i).toNat)
  case atStart => exact ⟨0, Nat.zero_le _, rfl, by rw [List.take_zero]; exact List.Pairwise.nil, fun s hs => by simp at hs, Below.refl _ _⟩
  case round =>
    obtain ⟨k, hk, rfl, hr, hnm, hb⟩ := hrel
    have HR : Hid (Kq.Rises (ss.take k) ∧ (∀ s ∈ ss.take k, Pl.nameB s.data.toList = true) ∧ Below w.heap.size w wr) := ⟨hr, hnm, hb⟩
    clear hr hnm hb
    by_cases hlt : k < N
    · have hlt' : (k : Int) < (N : Int) := by omega
      have hwk : IntKind.wrap .i64 ((k : Int) + 1) = (k : Int) + 1 := by rw [IntKind.wrap_i64]; omega
      have i1 : (0 : Int) ≤ (k : Int) := by omega
      obtain ⟨s, hs⟩ : ∃ s, ss[k]? = some s := ⟨_, List.getElem?_eq_getElem (by have := HC.out.2.1; omega)⟩
      have HX : Hid (ss[k]? = some s ∧ s ∈ ss ∧ ss.take (k + 1) = ss.take k ++ [s]) := ⟨hs, List.mem_of_getElem? hs, by rw [List.take_add_one, hs]; rfl⟩
      obtain ⟨g, o, hav, lx⟩ := HC.out.1 k s hs
      subst hav
      have lx' : wr.cell? ⟨g, o + k, none⟩ = some (.string s) := Below.kept HR.out.2.2 lx
      clear lx hs
      have HJ : Hid (Calls Tryz.prog 121 #[.slice (some ⟨wr.heap.size, 0, none⟩) 1 1] (wr.alloc (.cells #[.string s] 9)) fun e w' => ((∃ x : ByteArray, e = .returned (.tuple #[.string x, .int .i64 0]) ∧ Pl.nameB s.data.toList = true) ∨ (e = .returned (.tuple #[.string ⟨#[]⟩, .int .i64 1]) ∧ Pl.nameB s.data.toList = false)) ∧ Below w.heap.size w w') := by
        have hba := (Below.refl _ wr).alloc (Nat.le_refl _) (.cells #[.string s] 9)
        have hb0 := HR.out.2.2.trans (hba.mono HR.out.2.2.size)
        have key := Pa.join_any [s] wr.heap.size 0 1 (wr.alloc (.cells #[.string s] 9)) (HC.out.2.2.1.below hb0) (by simp) (by rw [World.size_alloc]; omega) (by simp) (fun j x hx => by
          match j, hx with
          | 0, hx => simp at hx; subst hx; exact cell?_alloc_at _ _ _ _ _ _ rfl
          | (j + 1), hx => simp at hx) (fun x hx => by simp at hx; subst hx; have := HC.out.2.2.2 _ HX.out.2.1; unfold maxLen; omega)
        refine key.mono ?_
        rintro e w' (⟨x, rfl, _, h1, h2⟩ | ⟨rfl, h1, h2⟩)
        · rw [show ([s].map fun x : ByteArray => x.data.toList) = [s.data.toList] from rfl, Tq.join_one] at h1
          exact ⟨Or.inl ⟨x, rfl, h1⟩, hb0.trans (h2.mono hb0.size)⟩
        · rw [show ([s].map fun x : ByteArray => x.data.toList) = [s.data.toList] from rfl, Tq.join_one] at h1
          exact ⟨Or.inr ⟨rfl, h1⟩, hb0.trans (h2.mono hb0.size)⟩
      go_wp2_with fail
      refine HJ.out.mono ?_
      rintro e w2 ⟨hcase, hb⟩
      have H2 : Hid (Below w.heap.size w w2) := hb
      clear hb
      rcases hcase with ⟨x, rfl, hy⟩ | ⟨rfl, hy⟩
      · have HY : Hid (∀ t ∈ ss.take (k + 1), Pl.nameB t.data.toList = true) := fun t ht => by
          rw [HX.out.2.2] at ht
          rcases List.mem_append.1 ht with ht | ht
          · exact HR.out.2.1 t ht
          · simp at ht
            rw [ht]
            exact hy
        clear hy lx'
        by_cases hk0 : k = 0
        · have HRI : Hid (Kq.Rises (ss.take (k + 1))) := by
            have e : Kq.Rises (ss.take (k + 1)) := by rw [HX.out.2.2, hk0, List.take_zero]; exact List.pairwise_singleton _ _
            exact e
          have i2 : ¬ (0 : Int) < (k : Int) := by omega
          go_wp2
          go_roundw
          case rel => exact ⟨k + 1, by omega, by go_num, HRI.out, HY.out, H2.out⟩
          case measure => simp [intOf]; omega
        · have i2 : (0 : Int) < (k : Int) := by omega
          have hwm : IntKind.wrap .i64 ((k : Int) - 1) = ((k - 1 : Nat) : Int) := by rw [IntKind.wrap_i64]; omega
          have i4 : (0 : Int) ≤ ((k - 1 : Nat) : Int) := by omega
          have i3 : ((k - 1 : Nat) : Int) < (N : Int) := by omega
          obtain ⟨y, hy⟩ : ∃ y, ss[k - 1]? = some y := ⟨_, List.getElem?_eq_getElem (by have := HC.out.2.1; omega)⟩
          have HYY : Hid (ss[k - 1]? = some y) := hy
          obtain ⟨g2, o2, hav, ly⟩ := HC.out.1 (k - 1) y hy
          simp only [Option.some.injEq, Addr.mk.injEq, and_true] at hav
          obtain ⟨e1, e2⟩ := hav
          rw [← e1, ← e2] at ly
          clear e1 e2 g2 o2 hy
          have ly' : w2.cell? ⟨g, o + (k - 1), none⟩ = some (.string y) := Below.kept H2.out ly
          clear ly
          by_cases hle : Kq.lt y s = true
          · have HRI : Hid (Kq.Rises (ss.take (k + 1))) := by
              have e : Kq.Rises (ss.take (k + 1)) := Kq.rises_take HR.out.1 (by omega) HX.out.1 HYY.out hle
              exact e
            have b1 : Op.bytesLess y.toList s.toList = true := hle
            have b2 : Op.bytesLess s.toList y.toList = false := Kq.lt_asymm hle
            have b3 : (s.toList == y.toList) = false := by
              cases h : (s.toList == y.toList) with
              | false => rfl
              | true => rw [bytes_eq h, Kq.lt_irrefl] at hle; cases hle
            have b4 : (y.toList == s.toList) = false := by
              cases h : (y.toList == s.toList) with
              | false => rfl
              | true => rw [bytes_eq h, Kq.lt_irrefl] at hle; cases hle
            clear hle
            go_wp2
            go_roundw
            case rel => exact ⟨k + 1, by omega, by go_num, HRI.out, HY.out, H2.out⟩
            case measure => simp [intOf]; omega
          · have HNO : Hid (¬ Tq.gnT ss) := fun h => hle (Kq.rises_not h.2.2 (by omega) HX.out.1 HYY.out)
            have hle' : Kq.lt y s = false := by simpa using hle
            have b1 : Op.bytesLess y.toList s.toList = false := hle'
            have b2 : (Op.bytesLess s.toList y.toList || s.toList == y.toList) = true := by
              cases h : Kq.lt s y with
              | true => rw [show Op.bytesLess s.toList y.toList = true from h]; rfl
              | false => rw [Kq.lt_total h hle']; simp
            have b3 : (Op.bytesLess s.toList y.toList || y.toList == s.toList) = true := by
              cases h : Kq.lt s y with
              | true => rw [show Op.bytesLess s.toList y.toList = true from h]; rfl
              | false => rw [Kq.lt_total h hle']; simp
            clear hle hle'
            go_wp2
            go_ret
            exact ⟨false, rfl, ⟨fun h => (by cases h), fun h => absurd h HNO.out⟩, H2.out⟩
      · have HNO : Hid (¬ Tq.gnT ss) := fun h => by
          have := h.2.1 s HX.out.2.1
          rw [hy] at this
          cases this
        clear hy lx'
        go_wp2
        go_ret
        exact ⟨false, rfl, ⟨fun h => (by cases h), fun h => absurd h HNO.out⟩, H2.out⟩
    · have hlt' : ¬ (k : Int) < (N : Int) := by omega
      have HYES : Hid (Tq.gnT ss) := by
        have e : Tq.gnT ss := by
          have h1 := HR.out.1
          have h2 := HR.out.2.1
          rw [List.take_of_length_le (by have := HC.out.2.1; omega)] at h1 h2
          exact ⟨by have := HC.out.2.1; omega, h2, h1⟩
        exact e
      go_wp2
      go_ret
      exact ⟨true, rfl, ⟨fun _ => HYES.out, fun _ => rfl⟩, HR.out.2.2⟩

/-- What laid has under way. -/
structure LdS (w wr : World) (nb : Nat) (n : Kq.Kn) (k : Nat) (v : Value) : Prop where
  blk : Cb wr nb (k10 { n with names := n.names.take k } v) 121
  row : wr.ownsRow w.heap.size 9 1 v (n.names.take k).length (sc (n.names.take k))
  hi : w.heap.size ≤ nb
  below : Below w.heap.size w wr
theorem LdS.later {w wr w' : World} {nb k : Nat} {n : Kq.Kn} {v : Value} (h : LdS w wr nb n k v) (hb : Below wr.heap.size wr w') : LdS w w' nb n k v := ⟨h.blk.below hb, row_stays h.row (fun j e => hb.block j (h.row.lt j e).2), h.hi, h.below.trans (hb.mono h.below.size)⟩

set_option maxRecDepth 20000 in
set_option maxHeartbeats 4000000 in
theorem laid_any11 (n : Kq.Kn) (u : Value) (w : World) (h : Ss w u n.names) (hN : n.names.length ≤ 1000) (hz : ∀ s ∈ n.names, s.size ≤ 20000) (hd : n.data.size ≤ 20000) :
    Calls Tryz.prog 64 #[kv n u] w fun e w' => ∃ nb v, e = .returned (dptr nb) ∧ Cb w' nb (k10 (Tq.laid n) v) 121 ∧ w'.ownsRow w.heap.size 9 1 v n.names.length (sc n.names) ∧ w.heap.size ≤ nb ∧ Below w.heap.size w w' := by
  obtain ⟨av, N, c, rfl, hk, hc⟩ := h
  have HC : Hid ((∀ (j : Nat) s, n.names[j]? = some s → ∃ g o, av = some ⟨g, o, none⟩ ∧ w.cell? ⟨g, o + j, none⟩ = some (.string s)) ∧ N = n.names.length ∧ (∀ s ∈ n.names, s.size ≤ 20000) ∧ n.data.size ≤ 20000) := ⟨hc, hk, hz, hd⟩
  have hN1 : N ≤ 1000 := by omega
  clear hc hk hN hz hd
  obtain ⟨b, hb0⟩ : ∃ b, b = w.heap.size := ⟨_, rfl⟩
  obtain ⟨nb, hnb⟩ : ∃ nb, nb = w.heap.size + 1 := ⟨_, rfl⟩
  have H0 : Hid (Cb ((w.alloc (.cells #[.int .i64 n.made, .int .i64 n.changed, .int .i64 n.ver, .int .i64 n.kids, .int .i64 n.owner, .int .i64 n.len, .int .i64 n.cnt, .string n.data, .int .i64 n.next, .slice av N c] 38)).alloc (.cells #[.int .i64 n.made, .int .i64 n.changed, .int .i64 n.ver, .int .i64 n.kids, .int .i64 n.owner, .int .i64 n.len, .int .i64 n.cnt, .string n.data, .int .i64 n.next, .slice av N c] 121)) b (k10 n (.slice av N c)) 38 ∧ Cb ((w.alloc (.cells #[.int .i64 n.made, .int .i64 n.changed, .int .i64 n.ver, .int .i64 n.kids, .int .i64 n.owner, .int .i64 n.len, .int .i64 n.cnt, .string n.data, .int .i64 n.next, .slice av N c] 38)).alloc (.cells #[.int .i64 n.made, .int .i64 n.changed, .int .i64 n.ver, .int .i64 n.kids, .int .i64 n.owner, .int .i64 n.len, .int .i64 n.cnt, .string n.data, .int .i64 n.next, .slice av N c] 121)) nb (k10 n (.slice av N c)) 121 ∧ Below w.heap.size w ((w.alloc (.cells #[.int .i64 n.made, .int .i64 n.changed, .int .i64 n.ver, .int .i64 n.kids, .int .i64 n.owner, .int .i64 n.len, .int .i64 n.cnt, .string n.data, .int .i64 n.next, .slice av N c] 38)).alloc (.cells #[.int .i64 n.made, .int .i64 n.changed, .int .i64 n.ver, .int .i64 n.kids, .int .i64 n.owner, .int .i64 n.len, .int .i64 n.cnt, .string n.data, .int .i64 n.next, .slice av N c] 121)) ∧ w.heap.size ≤ nb ∧ b ≠ nb) := by
    have h1 := (Below.refl _ w).alloc (Nat.le_refl _) (.cells (k10 n (.slice av N c)).toArray 38)
    have h2 := (Below.refl _ (w.alloc (.cells (k10 n (.slice av N c)).toArray 38))).alloc (Nat.le_refl _) (.cells (k10 n (.slice av N c)).toArray 121)
    have h3 := Cb.made (w.alloc (.cells (k10 n (.slice av N c)).toArray 38)) (k10 n (.slice av N c)) 121
    rw [World.size_alloc, ← hnb] at h3
    exact ⟨by rw [hb0]; exact (Cb.made w (k10 n (.slice av N c)) _).below h2, h3, h1.trans (h2.mono h1.size), by omega, by omega⟩
  have HB : Hid (b = w.heap.size ∧ nb = w.heap.size + 1) := ⟨hb0, hnb⟩
  unfold kv
  go_enter Tryz.func64, Tryz.ntmps64
  go_upto_region 2 with fail
  rw [← hnb, ← hb0]
  clear hnb hb0
  generalize ((w.alloc (.cells #[.int .i64 n.made, .int .i64 n.changed, .int .i64 n.ver, .int .i64 n.kids, .int .i64 n.owner, .int .i64 n.len, .int .i64 n.cnt, .string n.data, .int .i64 n.next, .slice av N c] 38)).alloc (.cells #[.int .i64 n.made, .int .i64 n.changed, .int .i64 n.ver, .int .i64 n.kids, .int .i64 n.owner, .int .i64 n.len, .int .i64 n.cnt, .string n.data, .int .i64 n.next, .slice av N c] 121)) = w0 at *
  have o7 : w0.cell? ⟨b, 7, none⟩ = some (.string n.data) := H0.out.1.cell 7
  go_wp2_with fail
  refine (sclone_any10 n.data w0 (by have := HC.out.2.2.2; omega)).mono ?_
  rintro e w1 ⟨rfl, hb⟩
  have H1 : Hid (Cb w1 b (k10 n (.slice av N c)) 38 ∧ Cb w1 nb (k10 n (.slice av N c)) 121 ∧ Below w.heap.size w w1) := ⟨H0.out.1.below hb, H0.out.2.1.below hb, H0.out.2.2.1.trans (hb.mono H0.out.2.2.1.size)⟩
  clear hb o7
  have d7 : w1.cell? ⟨nb, 7, none⟩ = some (.string n.data) := H1.out.2.1.cell 7
  have d9 : w1.cell? ⟨nb, 9, none⟩ = some (.slice av N c) := H1.out.2.1.cell 9
  have f7 := H1.out.2.1.free 7
  have f9 := H1.out.2.1.free 9
  go_upto_region 3 with fail
  clear d7 d9 f7 f9
  have H2 : Hid (Cb ((w1.setCell ⟨nb, 7, none⟩ (.string n.data)).setCell ⟨nb, 9, none⟩ (.slice none 0 0)) b (k10 n (.slice av N c)) 38 ∧ LdS w ((w1.setCell ⟨nb, 7, none⟩ (.string n.data)).setCell ⟨nb, 9, none⟩ (.slice none 0 0)) nb n 0 (.slice none 0 0)) := by
    have hg : w1.grownBy ((w1.setCell ⟨nb, 7, none⟩ (.string n.data)).setCell ⟨nb, 9, none⟩ (.slice none 0 0)) (some nb) := grown_set (grown_set ⟨rfl, rfl, rfl, Nat.le_refl _, fun _ _ _ => rfl⟩ _) _
    refine ⟨H1.out.1.keep (hg.block b H1.out.1.lt (by have := H0.out.2.2.2.2; simpa using this)), ⟨?_, by rw [List.take_zero]; exact World.ownsRow_nil _ _ _ _, H0.out.2.2.2.1, H1.out.2.2.grown hg H1.out.2.2.size (fun k hk => by have := H0.out.2.2.2.1; simp at hk; omega)⟩⟩
    exact (H1.out.2.1.set 7 _).set 9 _
  clear H1
  generalize ((w1.setCell ⟨nb, 7, none⟩ (.string n.data)).setCell ⟨nb, 9, none⟩ (.slice none 0 0)) = w2 at *
  have o9 : w2.cell? ⟨b, 9, none⟩ = some (.slice av N c) := H2.out.1.cell 9
  go_wp2
  clear o9
  go_loopw [18] (fun i wr => ∃ (k : Nat) (v : Value), k ≤ N ∧ i = .int .i64 (k : Int) ∧ LdS w wr nb n k v) (fun i _ => N - (intOf i).toNat)
  case atStart => exact ⟨0, _, Nat.zero_le _, rfl, H2.out.2⟩
  case round =>
    obtain ⟨k, v, hk, rfl, hL⟩ := hrel
    have HL : Hid (LdS w wr nb n k v) := hL
    clear hL H2 H0
    by_cases hlt : k < N
    · have hlt' : (k : Int) < (N : Int) := by omega
      have hwk : IntKind.wrap .i64 ((k : Int) + 1) = (k : Int) + 1 := by rw [IntKind.wrap_i64]; omega
      have i1 : (0 : Int) ≤ (k : Int) := by omega
      obtain ⟨s, hs⟩ : ∃ s, n.names[k]? = some s := ⟨_, List.getElem?_eq_getElem (by have := HC.out.2.1; omega)⟩
      have HX : Hid (s ∈ n.names ∧ n.names.take (k + 1) = n.names.take k ++ [s]) := ⟨List.mem_of_getElem? hs, by rw [List.take_add_one, hs]; rfl⟩
      obtain ⟨g, o, hav, lx⟩ := HC.out.1 k s hs
      subst hav
      have lx' : wr.cell? ⟨g, o + k, none⟩ = some (.string s) := Below.kept HL.out.below lx
      clear lx hs
      have hlk : (n.names.take k).length = k := by rw [List.length_take]; have := HC.out.2.1; omega
      have hlk1 : (n.names.take (k + 1)).length = k + 1 := by rw [List.length_take]; have := HC.out.2.1; omega
      have HLK : Hid ((n.names.take k).length = k ∧ (n.names.take (k + 1)).length = k + 1) := ⟨hlk, hlk1⟩
      obtain ⟨va, vc, ev, _, hj⟩ := row_form HL.out.row
      rw [hlk] at ev
      subst ev
      clear hj hlk hlk1
      go_wp2_with fail
      refine wp_region_T (fun w' => w'.cell? ⟨nb, 9, none⟩ = some (.slice va k vc)) 9 (by kernel_rfl) ?_
      have H3 : Hid (LdS w wr.drew nb n k (.slice va k vc) ∧ wr.drew.cell? ⟨nb, 9, none⟩ = some (.slice va k vc)) := ⟨HL.out.later (Below.refl _ _).drew, HL.out.blk.cell 9⟩
      clear lx' HL
      generalize wr.drew = w3 at *
      refine' take_T (i := 0) (d := 22) (v := _) rfl rfl (by kernel_rfl) (by kernel_rfl) (by kernel_rfl) (by kernel_rfl) (by kernel_rfl) (fun _ _ _ h => h) (Or.inl ⟨by rfl, ?h0⟩) (H3.out.2) ?_
      case h0 =>
        intro w hSw
        go_simp
        with_reducible rfl
      simp only [List.setIfInBounds_toArray, List.set_cons_zero, List.set_cons_succ]
      refine' take_T (i := 1) (d := 23) (v := _) rfl rfl (by kernel_rfl) (by kernel_rfl) (by kernel_rfl) (by kernel_rfl) (by kernel_rfl) (fun _ _ _ h => h) (Or.inl ⟨by rfl, ?h1⟩) (H3.out.2) ?_
      case h1 =>
        intro w hSw
        go_simp
        with_reducible rfl
      simp only [List.setIfInBounds_toArray, List.set_cons_zero, List.set_cons_succ]
      refine' take_T (i := 2) (d := 24) (v := _) rfl rfl (by kernel_rfl) (by kernel_rfl) (by kernel_rfl) (by kernel_rfl) (by kernel_rfl) (fun _ _ _ h => h) (Or.inl ⟨by rfl, ?h2⟩) (H3.out.2) ?_
      case h2 =>
        intro w hSw
        go_simp
        with_reducible rfl
      simp only [List.setIfInBounds_toArray, List.set_cons_zero, List.set_cons_succ]
      refine' take_T (i := 3) (d := 25) (v := _) rfl rfl (by kernel_rfl) (by kernel_rfl) (by kernel_rfl) (by kernel_rfl) (by kernel_rfl) (fun _ _ _ h => h) (Or.inl ⟨by rfl, ?h3⟩) (H3.out.2) ?_
      case h3 =>
        intro w hSw
        go_simp
        with_reducible rfl
      simp only [List.setIfInBounds_toArray, List.set_cons_zero, List.set_cons_succ]
      refine wpAnyT_ready (rs := [4]) (by kernel_rfl) (by simp) ?_
      refine AllReadyT.cons (o := _) rfl (fun KQ hKQ => ?_) AllReadyT.nil
      go_simp
      refine (sclone_any10 s w3 (by have := HC.out.2.2.1 s HX.out.1; omega)).mono ?_
      rintro e w4 ⟨rfl, hb⟩
      have H4 : Hid (LdS w w4 nb n k (.slice va k vc) ∧ w4.cell? ⟨nb, 9, none⟩ = some (.slice va k vc)) := ⟨H3.out.1.later hb, Below.kept hb H3.out.2⟩
      clear hb H3
      simp only []
      refine hKQ.out _ _ (fun _ => H4.out.2) ?_
      clear hKQ KQ
      refine wpAnyT_ready (rs := [5]) (by kernel_rfl) (by simp) ?_
      refine AllReadyT.cons (o := _) rfl (fun KQ hKQ => ?_) AllReadyT.nil
      go_simp
      have H5 : Hid (LdS w (w4.alloc (.cells #[.string s] 9)) nb n k (.slice va k vc) ∧ (w4.alloc (.cells #[.string s] 9)).cell? ⟨nb, 9, none⟩ = some (.slice va k vc) ∧ Src (w4.alloc (.cells #[.string s] 9)) (.slice (some ⟨w4.heap.size, 0, none⟩) 1 1) [s]) := by
        have hba := (Below.refl _ w4).alloc (Nat.le_refl _) (.cells #[.string s] 9)
        exact ⟨H4.out.1.later hba, Below.kept hba H4.out.2, Src.one w4 s 9⟩
      clear H4
      generalize (w4.alloc (.cells #[.string s] 9)) = w5 at *
      generalize w4.heap.size = sb at *
      refine hKQ.out _ _ (fun _ => H5.out.2.1) ?_
      clear hKQ KQ
      refine wpAnyT_ready (rs := [6]) (by kernel_rfl) (by simp) ?_
      refine AllReadyT.cons (o := _) rfl (fun KQ hKQ => ?_) AllReadyT.nil
      refine wp_strs _ _ rfl w.heap.size (.slice va k vc) (.slice (some ⟨sb, 0, none⟩) 1 1) (n.names.take k) [s] w5 rfl rfl H5.out.1.row H5.out.1.below.size H5.out.2.2 (by rw [HLK.out.1]; simp; omega) ?_
      intro v6 w6 hrow hb6 hg6
      have hne : some nb ≠ ((.slice va k vc) : Value).ownBlock := fun e => H5.out.1.blk.apart H5.out.1.row (by decide) e.symm
      have hkn := hg6.block nb H5.out.1.blk.lt hne
      have H6 : Hid (Cb w6 nb (k10 { n with names := n.names.take k } (.slice va k vc)) 121 ∧ w6.ownsRow w.heap.size 9 1 v6 (n.names.take (k + 1)).length (sc (n.names.take (k + 1))) ∧ Below w.heap.size w w6 ∧ w.heap.size ≤ nb) := ⟨H5.out.1.blk.keep hkn, by rw [HX.out.2]; exact hrow, H5.out.1.below.trans hb6, H5.out.1.hi⟩
      obtain ⟨va6, vc6, e6, _, hj⟩ := row_form H6.out.2.1
      rw [HLK.out.2] at e6
      subst e6
      clear hrow hb6 hg6 hne hkn hj H5
      refine hKQ.out _ _ (fun _ => H6.out.1.cell 9) ?_
      clear hKQ KQ
      refine' take_T (i := 7) (d := 29) (v := _) rfl rfl (by kernel_rfl) (by kernel_rfl) (by kernel_rfl) (by kernel_rfl) (by kernel_rfl) (fun _ _ _ h => h) (Or.inl ⟨by rfl, ?h7⟩) (H6.out.1.cell 9) ?_
      case h7 =>
        intro w hSw
        go_simp
        with_reducible rfl
      simp only [List.setIfInBounds_toArray, List.set_cons_zero, List.set_cons_succ]
      refine' take_T (i := 8) (d := 30) (v := _) rfl rfl (by kernel_rfl) (by kernel_rfl) (by kernel_rfl) (by kernel_rfl) (by kernel_rfl) (fun _ _ _ h => h) (Or.inl ⟨by rfl, ?h8⟩) (H6.out.1.cell 9) ?_
      case h8 =>
        intro w hSw
        go_simp
        with_reducible rfl
      simp only [List.setIfInBounds_toArray, List.set_cons_zero, List.set_cons_succ]
      refine wpAnyT_ready (rs := [9]) (by kernel_rfl) (by simp) ?_
      refine AllReadyT.cons (o := _) rfl (fun KQ hKQ => ?_) AllReadyT.nil
      have d9 : w6.cell? ⟨nb, 9, none⟩ = some (.slice va k vc) := H6.out.1.cell 9
      have f9 := H6.out.1.free 9
      go_simp
      clear d9 f9
      have H7 : Hid (LdS w (w6.setCell ⟨nb, 9, none⟩ (.slice va6 (k + 1) vc6)) nb n (k + 1) (.slice va6 (k + 1) vc6)) := by
        have hg := grownBy_setCell w6 ⟨nb, 9, none⟩ (.slice va6 (k + 1) vc6)
        refine ⟨H6.out.1.set 9 _, row_stays H6.out.2.1 (fun j e => hg.block j (H6.out.2.1.lt j e).2 (fun e2 => H6.out.1.apart H6.out.2.1 (by decide) (by rw [e, e2]))), H6.out.2.2.2, H6.out.2.2.1.grown hg H6.out.2.2.1.size (fun j hj => by have := H6.out.2.2.2; simp at hj; omega)⟩
      clear H6
      generalize w6.setCell ⟨nb, 9, none⟩ (.slice va6 (k + 1) vc6) = w7 at *
      refine hKQ.out _ _ (fun h => absurd rfl h) ?_
      clear hKQ KQ
      refine wpAnyT_done (by kernel_rfl) ?_ _
      go_wp2
      go_roundw
      case rel => exact ⟨k + 1, _, by omega, by go_num, H7.out⟩
      case measure => simp [intOf]; omega
    · have hlt' : ¬ (k : Int) < (N : Int) := by omega
      have HE : Hid (n.names.take k = n.names) := by
        have e : n.names.take k = n.names := List.take_of_length_le (by have := HC.out.2.1; omega)
        exact e
      obtain ⟨va, vc, ev, _, hj⟩ := row_form HL.out.row
      rw [HE.out, ← HC.out.2.1] at ev
      subst ev
      clear hj
      have d7 : wr.cell? ⟨nb, 7, none⟩ = some (.string n.data) := HL.out.blk.cell 7
      have d9 : wr.cell? ⟨nb, 9, none⟩ = some (.slice va N vc) := HL.out.blk.cell 9
      have d5 : wr.cell? ⟨nb, 5, none⟩ = some (.int .i64 n.len) := HL.out.blk.cell 5
      have d6 : wr.cell? ⟨nb, 6, none⟩ = some (.int .i64 n.cnt) := HL.out.blk.cell 6
      have f5 := HL.out.blk.free 5
      have f6 := HL.out.blk.free 6
      go_wp2
      go_ret
      have hg : wr.grownBy ((wr.setCell ⟨nb, 5, none⟩ (.int .i64 (n.data.size : Int))).setCell ⟨nb, 6, none⟩ (.int .i64 (N : Int))) (some nb) := grown_set (grown_set ⟨rfl, rfl, rfl, Nat.le_refl _, fun _ _ _ => rfl⟩ _) _
      have hrow := HL.out.row
      rw [HE.out] at hrow
      refine ⟨nb, rfl, .slice va N vc, ?_, row_stays hrow (fun j e => hg.block j (hrow.lt j e).2 (fun e2 => HL.out.blk.apart hrow (by decide) (by rw [e, e2]))), HL.out.hi, HL.out.below.grown hg HL.out.below.size (fun j hj => by have := HL.out.hi; simp at hj; omega)⟩
      have h := (HL.out.blk.set 5 (.int .i64 (n.data.size : Int))).set 6 (.int .i64 (N : Int))
      rw [HE.out, HC.out.2.1] at h
      rw [HC.out.2.1]
      exact h

section
variable {w : World} {q m : Nat} {t : Tq.Tr} {G : Nat → Prop} {D : DataW Nat} {P : ByteArray → Nat} {V : ByteArray → Value}
theorem Tq.lay_iff {p : ByteArray} {n : Kq.Kn} : Tq.layB p n = true ↔ Pl.goodB p.data.toList = true ∧ Tq.gnT n.names := by
  unfold Tq.layB Tq.gnT
  simp only [Bool.and_eq_true, decide_eq_true_eq, List.all_eq_true, Tq.rises_iff]
  constructor
  · rintro ⟨⟨⟨h1, h2⟩, h3⟩, h4⟩
    exact ⟨h1, h3, h4, h2⟩
  · rintro ⟨h1, h3, h4, h2⟩
    exact ⟨⟨⟨h1, h2⟩, h3⟩, h4⟩
theorem Tq.load_no {p : ByteArray} {n : Kq.Kn} (h : ¬ (Pl.goodB p.data.toList = true ∧ Tq.gnT n.names)) : Tq.load t p n = (1, t) := by
  unfold Tq.load
  rw [if_pos]
  cases hh : Tq.layB p n with
  | false => rfl
  | true => exact absurd (Tq.lay_iff.1 hh) h
theorem Tq.load_may {p : ByteArray} {n : Kq.Kn} (h : Pl.goodB p.data.toList = true ∧ Tq.gnT n.names) : Tq.load t p n = if Tq.mayT t p ≠ 0 then (Tq.mayT t p, t) else (0, { t with l := Tq.ins t.l p (Tq.laid n) }) := by
  unfold Tq.load Tq.mayT
  rw [if_neg (by rw [Tq.lay_iff.2 h]; simp)]
  cases Tq.find t.l p with
  | some x => simp
  | none =>
    simp only []
    by_cases h : t.room ≤ (t.l.length : Int)
    · simp [h]
    · simp [h]
/-- A tree, and a node that is to be laid into it. -/
def Ld5 (w w5 : World) (q : Nat) (t : Tq.Tr) (G : Nat → Prop) (m : Nat) (D : DataW Nat) (P : ByteArray → Nat) (V : ByteArray → Value) (b : Nat) (n : Kq.Kn) (u : Value) (nb : Nat) (v4 : Value) : Prop :=
  TkU w5 q t (fun k => G k ∨ k = nb ∨ v4.ownBlock = some k) m D P V ∧ Cb w5 b (k10 n u) 38 ∧ Own11 w5 nb (Tq.laid n) v4 ∧ (∀ f ∈ t.l, P f.1 ≠ nb ∧ ∀ k, (V f.1).ownBlock = some k → v4.ownBlock ≠ some k) ∧ Below w.heap.size w w5 ∧ ∀ k, (k = nb ∨ v4.ownBlock = some k) → w.heap.size ≤ k ∧ k ≠ b
theorem Ld5.later {w5 w6 : World} {b nb : Nat} {n : Kq.Kn} {u v4 : Value} (h : Ld5 w w5 q t G m D P V b n u nb v4) (hb : Below w5.heap.size w5 w6) : Ld5 w w6 q t G m D P V b n u nb v4 :=
  ⟨h.1.below hb, h.2.1.below hb, h.2.2.1.keep (fun k hk => hb.block k (h.2.2.1.flt hk)), h.2.2.2.1, h.2.2.2.2.1.trans (hb.mono h.2.2.2.2.1.size), h.2.2.2.2.2⟩
theorem ld5 {w4 w5 : World} {b nb : Nat} {n : Kq.Kn} {u v4 : Value} (h : TkU w4 q t G m D P V) (hbx : Cb w4 b (k10 n u) 38) (hb0 : Below w.heap.size w w4) (hr : Kq.Rises n.names) (hcb : Cb w5 nb (k10 (Tq.laid n) v4) 121) (hrow : w5.ownsRow w4.heap.size 9 1 v4 n.names.length (sc n.names)) (hhi : w4.heap.size ≤ nb) (hb : Below w4.heap.size w4 w5) : Ld5 w w5 q t G m D P V b n u nb v4 := by
  have hrl := hrow.lt
  have hs := hb.size
  have hs0 := hb0.size
  have hbl := hbx.lt
  refine ⟨(h.below hb).more (fun k hk => Or.inl hk) (fun k hk => ?_), hbx.below hb, ⟨hcb, hrow.mono (Nat.zero_le _), hr⟩, fun f hf => ⟨fun e => ?_, fun k hk e => ?_⟩, hb0.trans (hb.mono hs0), fun k hk => ?_⟩
  · rcases hk with hk | hk | hk
    · have := h.glt k hk
      omega
    · rw [hk]
      exact hcb.lt
    · exact (hrl k hk).2
  · have := h.glt _ (h.gf f hf).1
    omega
  · have := h.glt _ ((h.gf f hf).2 k hk)
    have := (hrl k e).1
    omega
  · rcases hk with hk | hk
    · omega
    · have := (hrl k hk).1
      omega
set_option maxRecDepth 20000 in
set_option maxHeartbeats 4000000 in
theorem load_any11 (p : ByteArray) (n : Kq.Kn) (u : Value) (h : TkU w q t G m D P V) (hf : Fine11 t) (hS : Pa.Std w) (hs : Ss w u n.names) (hn : n.names.length ≤ 1000) (hz : ∀ s ∈ n.names, s.size ≤ 20000) (hd : n.data.size ≤ 20000) (hp : p.size ≤ maxLen) :
    Calls Tryz.prog 18 #[dptr q, .string p, kv n u] w fun e w' => ∃ F', e = .returned (.int .i64 (Tq.load t p n).1) ∧ LTk w' q (Tq.load t p n).2 F' ∧ Moved w w' G F' := by
  obtain ⟨av, N, c, rfl, hk, hc⟩ := hs
  obtain ⟨b, hb0⟩ : ∃ b, b = w.heap.size := ⟨_, rfl⟩
  have H0 : Hid (TkU (w.alloc (.cells #[.int .i64 n.made, .int .i64 n.changed, .int .i64 n.ver, .int .i64 n.kids, .int .i64 n.owner, .int .i64 n.len, .int .i64 n.cnt, .string n.data, .int .i64 n.next, .slice av N c] 38)) q t G m D P V ∧ Cb (w.alloc (.cells #[.int .i64 n.made, .int .i64 n.changed, .int .i64 n.ver, .int .i64 n.kids, .int .i64 n.owner, .int .i64 n.len, .int .i64 n.cnt, .string n.data, .int .i64 n.next, .slice av N c] 38)) b (k10 n (.slice av N c)) 38 ∧ Below w.heap.size w (w.alloc (.cells #[.int .i64 n.made, .int .i64 n.changed, .int .i64 n.ver, .int .i64 n.kids, .int .i64 n.owner, .int .i64 n.len, .int .i64 n.cnt, .string n.data, .int .i64 n.next, .slice av N c] 38)) ∧ Pa.Std (w.alloc (.cells #[.int .i64 n.made, .int .i64 n.changed, .int .i64 n.ver, .int .i64 n.kids, .int .i64 n.owner, .int .i64 n.len, .int .i64 n.cnt, .string n.data, .int .i64 n.next, .slice av N c] 38)) ∧ Ss (w.alloc (.cells #[.int .i64 n.made, .int .i64 n.changed, .int .i64 n.ver, .int .i64 n.kids, .int .i64 n.owner, .int .i64 n.len, .int .i64 n.cnt, .string n.data, .int .i64 n.next, .slice av N c] 38)) (.slice av N c) n.names) := by
    have hba := (Below.refl _ w).alloc (Nat.le_refl _) (.cells (k10 n (.slice av N c)).toArray 38)
    exact ⟨h.below hba, by rw [hb0]; exact Cb.made w _ _, hba, hS.below hba, Ss.below ⟨av, N, c, rfl, hk, hc⟩ hba⟩
  have HG : Hid (∀ k, G k → k < w.heap.size) := h.glt
  have HZ : Hid (n.names.length ≤ 1000 ∧ (∀ s ∈ n.names, s.size ≤ 20000) ∧ n.data.size ≤ 20000 ∧ p.size ≤ maxLen ∧ Fine11 t ∧ b = w.heap.size) := ⟨hn, hz, hd, hp, hf, hb0⟩
  obtain ⟨R, hR⟩ : ∃ R, R = Tq.load t p n := ⟨_, rfl⟩
  have HR : Hid (R = Tq.load t p n) := hR
  rw [← hR]
  clear hR h hf hS hk hc hn hz hd hp
  unfold kv
  go_enter Tryz.func18, Tryz.ntmps18
  go_upto_region 1 with fail
  rw [← hb0]
  clear hb0
  generalize (w.alloc (.cells #[.int .i64 n.made, .int .i64 n.changed, .int .i64 n.ver, .int .i64 n.kids, .int .i64 n.owner, .int .i64 n.len, .int .i64 n.cnt, .string n.data, .int .i64 n.next, .slice av N c] 38)) = w0 at *
  go_wp2_with fail
  refine (Pa.good_any p w0 H0.out.2.2.2.1 HZ.out.2.2.2.1).mono ?_
  rintro e w1 ⟨rfl, hb⟩
  have H1 : Hid (TkU w1 q t G m D P V ∧ Cb w1 b (k10 n (.slice av N c)) 38 ∧ Below w.heap.size w w1 ∧ Pa.Std w1 ∧ Ss w1 (.slice av N c) n.names) := ⟨H0.out.1.below hb, H0.out.2.1.below hb, H0.out.2.2.1.trans (hb.mono H0.out.2.2.1.size), H0.out.2.2.2.1.below hb, H0.out.2.2.2.2.below hb⟩
  clear hb H0
  cases hgp : Pl.goodB p.data.toList with
  | false =>
    have HE : Hid (R = (1, t)) := by
      have e : R = (1, t) := by rw [HR.out, Tq.load_no (fun h => by rw [hgp] at h; exact absurd h.1 (by simp))]
      exact e
    clear hgp
    go_wp2
    go_ret
    rw [HE.out]
    exact ⟨G, rfl, ⟨_, _, _, _, H1.out.1⟩, Moved.of_below G H1.out.2.2.1⟩
  | true =>
    have HGP : Hid (Pl.goodB p.data.toList = true) := hgp
    have o9 : w1.cell? ⟨b, 9, none⟩ = some (.slice av N c) := H1.out.2.1.cell 9
    clear hgp
    go_wp2_with fail
    refine (goodNames_any11 (.slice av N c) n.names w1 H1.out.2.2.2.2 H1.out.2.2.2.1 HZ.out.1 HZ.out.2.1).mono ?_
    rintro e w2 ⟨gb, rfl, hgb, hb⟩
    have H2 : Hid (TkU w2 q t G m D P V ∧ Cb w2 b (k10 n (.slice av N c)) 38 ∧ Below w.heap.size w w2 ∧ Pa.Std w2 ∧ Ss w2 (.slice av N c) n.names) := ⟨H1.out.1.below hb, H1.out.2.1.below hb, H1.out.2.2.1.trans (hb.mono H1.out.2.2.1.size), H1.out.2.2.2.1.below hb, H1.out.2.2.2.2.below hb⟩
    have HGB : Hid (gb = true ↔ Tq.gnT n.names) := hgb
    clear hb hgb o9 H1
    cases gb with
    | false =>
      have HE : Hid (R = (1, t)) := by
        have e : R = (1, t) := by rw [HR.out, Tq.load_no (fun h => by have := HGB.out.2 h.2; cases this)]
        exact e
      go_wp2
      go_ret
      rw [HE.out]
      exact ⟨G, rfl, ⟨_, _, _, _, H2.out.1⟩, Moved.of_below G H2.out.2.2.1⟩
    | true =>
      have HLM : Hid (R = (if Tq.mayT t p ≠ 0 then (Tq.mayT t p, t) else (0, { t with l := Tq.ins t.l p (Tq.laid n) })) ∧ Tq.gnT n.names) := ⟨by rw [HR.out, Tq.load_may ⟨HGP.out, HGB.out.1 rfl⟩], HGB.out.1 rfl⟩
      go_wp2_with fail
      refine (mayLay_any11 p H2.out.1 HZ.out.2.2.2.1).mono ?_
      rintro e w3 ⟨rfl, hb⟩
      have H3 : Hid (TkU w3 q t G m D P V ∧ Cb w3 b (k10 n (.slice av N c)) 38 ∧ Below w.heap.size w w3 ∧ Ss w3 (.slice av N c) n.names) := ⟨H2.out.1.below hb, H2.out.2.1.below hb, H2.out.2.2.1.trans (hb.mono H2.out.2.2.1.size), H2.out.2.2.2.2.below hb⟩
      clear hb H2
      obtain ⟨me, hme⟩ : ∃ x, x = Tq.mayT t p := ⟨_, rfl⟩
      rw [← hme]
      have HM : Hid (me = Tq.mayT t p) := hme
      clear hme
      by_cases h1 : me = 0
      · subst h1
        have HE : Hid (R = (0, { t with l := Tq.ins t.l p (Tq.laid n) })) := by
          have e : R = (0, { t with l := Tq.ins t.l p (Tq.laid n) }) := by rw [HLM.out.1, if_neg (by rw [← HM.out]; simp)]
          exact e
        have HN : Hid (p.size ≤ maxLen ∧ Fine11 t ∧ Tq.find t.l p = none ∧ Kq.Rises n.names ∧ b = w.heap.size) := by
          refine ⟨HZ.out.2.2.2.1, HZ.out.2.2.2.2.1, ?_, HLM.out.2.2.2, HZ.out.2.2.2.2.2⟩
          have h := HM.out
          unfold Tq.mayT at h
          cases hfd : Tq.find t.l p with
          | none => rfl
          | some x => rw [hfd] at h; cases h
        go_wp2_with fail
        refine wp_region_held_drew (S := fun w' => Cb w' q [.map (some m), .int .i64 t.room] 98 ∧ Cb w' b (k10 n (.slice av N c)) 38) (by kernel_rfl) ⟨H3.out.1.blk, H3.out.2.1⟩ (fun _ => ?_)
        have H4 : Hid (TkU w3.drew q t G m D P V ∧ Cb w3.drew b (k10 n (.slice av N c)) 38 ∧ Below w.heap.size w w3.drew ∧ Ss w3.drew (.slice av N c) n.names) := ⟨H3.out.1.below (Below.refl _ _).drew, H3.out.2.1, H3.out.2.2.1.trans ((Below.refl _ _).drew.mono H3.out.2.2.1.size), H3.out.2.2.2.below (Below.refl _ _).drew⟩
        clear H3
        generalize w3.drew = w4 at *
        refine' take_at (i := 0) (d := 23) (v := _) rfl rfl (by kernel_rfl) (by kernel_rfl) (by kernel_rfl) (fun _ _ _ h => h) (Or.inl ⟨by rfl, ?h0⟩) (⟨H4.out.1.blk, H4.out.2.1⟩) ?_
        case h0 =>
          intro w hSw
          have cq : w.cell? ⟨q, 0, none⟩ = some (.map (some m)) := hSw.1.cell 0
          obtain ⟨c0, c1, c2, c3, c4, c5, c6, c7, c8, c9⟩ := ten_cells hSw.2
          go_simp
          with_reducible rfl
        simp only [List.setIfInBounds_toArray, List.set_cons_zero, List.set_cons_succ]
        refine' take_at (i := 1) (d := 24) (v := _) rfl rfl (by kernel_rfl) (by kernel_rfl) (by kernel_rfl) (fun _ _ _ h => h) (Or.inl ⟨by rfl, ?h1⟩) (⟨H4.out.1.blk, H4.out.2.1⟩) ?_
        case h1 =>
          intro w hSw
          have cq : w.cell? ⟨q, 0, none⟩ = some (.map (some m)) := hSw.1.cell 0
          obtain ⟨c0, c1, c2, c3, c4, c5, c6, c7, c8, c9⟩ := ten_cells hSw.2
          go_simp
          with_reducible rfl
        simp only [List.setIfInBounds_toArray, List.set_cons_zero, List.set_cons_succ]
        refine' take_at (i := 2) (d := 25) (v := _) rfl rfl (by kernel_rfl) (by kernel_rfl) (by kernel_rfl) (fun _ _ _ h => h) (Or.inl ⟨by rfl, ?h2⟩) (⟨H4.out.1.blk, H4.out.2.1⟩) ?_
        case h2 =>
          intro w hSw
          have cq : w.cell? ⟨q, 0, none⟩ = some (.map (some m)) := hSw.1.cell 0
          obtain ⟨c0, c1, c2, c3, c4, c5, c6, c7, c8, c9⟩ := ten_cells hSw.2
          go_simp
          with_reducible rfl
        simp only [List.setIfInBounds_toArray, List.set_cons_zero, List.set_cons_succ]
        refine' take_at (i := 3) (d := 26) (v := _) rfl rfl (by kernel_rfl) (by kernel_rfl) (by kernel_rfl) (fun _ _ _ h => h) (Or.inl ⟨by rfl, ?h3⟩) (⟨H4.out.1.blk, H4.out.2.1⟩) ?_
        case h3 =>
          intro w hSw
          have cq : w.cell? ⟨q, 0, none⟩ = some (.map (some m)) := hSw.1.cell 0
          obtain ⟨c0, c1, c2, c3, c4, c5, c6, c7, c8, c9⟩ := ten_cells hSw.2
          go_simp
          with_reducible rfl
        simp only [List.setIfInBounds_toArray, List.set_cons_zero, List.set_cons_succ]
        refine' take_at (i := 4) (d := 27) (v := _) rfl rfl (by kernel_rfl) (by kernel_rfl) (by kernel_rfl) (fun _ _ _ h => h) (Or.inl ⟨by rfl, ?h4⟩) (⟨H4.out.1.blk, H4.out.2.1⟩) ?_
        case h4 =>
          intro w hSw
          have cq : w.cell? ⟨q, 0, none⟩ = some (.map (some m)) := hSw.1.cell 0
          obtain ⟨c0, c1, c2, c3, c4, c5, c6, c7, c8, c9⟩ := ten_cells hSw.2
          go_simp
          with_reducible rfl
        simp only [List.setIfInBounds_toArray, List.set_cons_zero, List.set_cons_succ]
        refine' take_at (i := 6) (d := 29) (v := _) rfl rfl (by kernel_rfl) (by kernel_rfl) (by kernel_rfl) (fun _ _ _ h => h) (Or.inl ⟨by rfl, ?h6⟩) (⟨H4.out.1.blk, H4.out.2.1⟩) ?_
        case h6 =>
          intro w hSw
          have cq : w.cell? ⟨q, 0, none⟩ = some (.map (some m)) := hSw.1.cell 0
          obtain ⟨c0, c1, c2, c3, c4, c5, c6, c7, c8, c9⟩ := ten_cells hSw.2
          go_simp
          with_reducible rfl
        simp only [List.setIfInBounds_toArray, List.set_cons_zero, List.set_cons_succ]
        refine wpAnyH_ready (rs := [5]) (by kernel_rfl) (by simp) ?_
        refine AllReadyH.cons (o := _) rfl (fun KQ hKQ => ?_) AllReadyH.nil
        · as_aux_lemma =>
            go_simp
            refine (sclone_any10 p w4 (by have := good_len HGP.out; omega)).mono ?_
            rintro e w5 ⟨rfl, hb⟩
            have H4a : Hid (TkU w5 q t G m D P V ∧ Cb w5 b (k10 n (.slice av N c)) 38 ∧ Below w.heap.size w w5 ∧ Ss w5 (.slice av N c) n.names) := ⟨H4.out.1.below hb, H4.out.2.1.below hb, H4.out.2.2.1.trans (hb.mono H4.out.2.2.1.size), H4.out.2.2.2.below hb⟩
            clear hb H4
            simp only []
            refine hKQ.out _ _ ⟨H4a.out.1.blk, H4a.out.2.1⟩ (fun _ => ?_)
            clear hKQ KQ
            refine wpAnyH_ready (rs := [7]) (by kernel_rfl) (by simp) ?_
            refine AllReadyH.cons (o := _) rfl (fun KQ hKQ => ?_) AllReadyH.nil
            go_simp
            refine (laid_any11 n (.slice av N c) w5 H4a.out.2.2.2 HZ.out.1 HZ.out.2.1 HZ.out.2.2.1).mono ?_
            rintro e w6 ⟨nb, v4, rfl, hcb, hrow, hhi, hb⟩
            have H5 : Hid (Ld5 w w6 q t G m D P V b n (.slice av N c) nb v4) := ld5 H4a.out.1 H4a.out.2.1 H4a.out.2.2.1 HN.out.2.2.2.1 hcb hrow hhi hb
            clear hcb hrow hhi hb H4a
            simp only []
            refine hKQ.out _ _ ⟨H5.out.1.blk, H5.out.2.1⟩ (fun _ => ?_)
            clear hKQ KQ
            generalize w6 = w5 at *
            refine wpAnyH_ready (rs := [8]) (by kernel_rfl) (by simp) ?_
            refine AllReadyH.cons (o := _) rfl (fun KQ hKQ => ?_) AllReadyH.nil
            obtain ⟨w6, hrun, hown, hturn⟩ := H5.out.1.own.store keyed11 Tryz.underlying96 (by have h1 := HN.out.2.1.len; have h2 := HN.out.2.1.room; unfold maxLen; omega) (key_of HN.out.1) (fElem_ptr nb)
            have key := H5.out.1.come HN.out.1 HN.out.2.2.1 hown hturn H5.out.2.2.1 H5.out.2.2.2.1 ⟨Or.inr (Or.inl rfl), fun k hk => Or.inr (Or.inr hk)⟩
            have H6 : Hid (LTk w6 q { t with l := Tq.ins t.l p (Tq.laid n) } (fun k => G k ∨ k = nb ∨ v4.ownBlock = some k) ∧ Moved w w6 G (fun k => G k ∨ k = nb ∨ v4.ownBlock = some k) ∧ Cb w6 q [.map (some m), .int .i64 t.room] 98 ∧ Cb w6 b (k10 n (.slice av N c)) 38) := by
              have h1 := H5.out.2.2.2.2.1
              have h2 := key.2
              have hs1 := h1.size
              refine ⟨⟨_, _, _, _, key.1⟩, ⟨h2.os.trans h1.os, h2.tape.trans h1.tape, h2.output.trans h1.output, Nat.le_trans h1.size h2.size, fun k hk hG => (h2.block k (by omega) (fun e => ?_)).trans (h1.block k hk), fun k hk => ?_⟩, key.1.blk, H5.out.2.1.keep (h2.block b H5.out.2.1.lt (fun e => ?_))⟩
              · rcases e with e | e
                · exact hG e
                · have := (H5.out.2.2.2.2.2 k e).1
                  omega
              · rcases hk with e | e
                · exact Or.inl e
                · exact Or.inr (H5.out.2.2.2.2.2 k e).1
              · rcases e with e | e
                · have := HG.out b e
                  have := HN.out.2.2.2.2
                  omega
                · exact (H5.out.2.2.2.2.2 b e).2 rfl
            clear hown hturn key H5
            go_simp
            clear hrun
            refine hKQ.out _ _ ⟨H6.out.2.2.1, H6.out.2.2.2⟩ (fun _ => ?_)
            clear hKQ KQ
            refine wpAnyH_done (by kernel_rfl) ?_ _
            go_wp2
            go_ret
            rw [HE.out]
            exact ⟨_, rfl, H6.out.1, H6.out.2.1⟩
      · have HE : Hid (R = (me, t)) := by
          have e : R = (me, t) := by rw [HLM.out.1, if_pos (by rw [← HM.out]; exact h1), HM.out]
          exact e
        go_wp2
        go_ret
        rw [HE.out]
        exact ⟨G, rfl, ⟨_, _, _, _, H3.out.1⟩, Moved.of_below G H3.out.2.2.1⟩
end
end Go.Proofs.YtpidafpaffpnaaaGreatDoor
