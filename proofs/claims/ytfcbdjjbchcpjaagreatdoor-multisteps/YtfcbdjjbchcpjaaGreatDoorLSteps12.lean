/- MultiSteps' walk. -/
import Derived.Test.YtfcbdjjbchcpjaaGreatDoorTwo12
import Derived.Test.YtfcbdjjbchcpjaaGreatDoorROne12
namespace Go.Proofs.YtfcbdjjbchcpjaaGreatDoor
open Go.RowKit

set_option maxRecDepth 20000 in
set_option maxHeartbeats 8000000 in
theorem steps_any12 {LT : Rep11} (S : Specs11 LT) (D : SpecD12 LT) (R : SpecR11 LT) (va vb : Value) (a b : List O) (W : World) (hS : Pa.Std W) (ha : Ol W va a) (hla : a.length ≤ maxLen) (hfa : ∀ o ∈ a, OFit o) (hb : Ol W vb b) (hlb : b.length ≤ maxLen) (hfb : ∀ o ∈ b, OFit o) :
    Calls Tryz.prog 12 #[va, vb] W fun e w' => e = .returned (.bool true) ∧ Below W.heap.size W w' := by
  have HS : Hid (Specs11 LT ∧ SpecD12 LT ∧ SpecR11 LT ∧ Pa.Std W) := ⟨S, D, R, hS⟩
  have HA : Hid (Ol W va a ∧ a.length ≤ maxLen ∧ (∀ o ∈ a, OFit o) ∧ Ol W vb b ∧ b.length ≤ maxLen ∧ ∀ o ∈ b, OFit o) := ⟨ha, hla, hfa, hb, hlb, hfb⟩
  obtain ⟨aa, n, ac, rfl, hn, hjj⟩ := ha
  obtain ⟨ba, m, bc, rfl, hm, hjj2⟩ := hb
  have HN : Hid (n = a.length ∧ m = b.length) := ⟨hn, hm⟩
  clear S D R hS hla hfa hlb hfb hn hm hjj hjj2
  go_enter Tryz.func12, Tryz.ntmps12
  go_wp2_with fail
  refine (awake_any12 HS.out.1 HS.out.2.1 W HS.out.2.2.2).mono ?_
  rintro e w0 ⟨rfl, hb0⟩
  have HB0 : Hid (Below W.heap.size W w0) := hb0
  clear hb0
  go_wp2_with fail
  refine (long_any12 (.slice aa n ac) a w0 (HA.out.1.below HB0.out) HA.out.2.1).mono ?_
  rintro e w1 ⟨rfl, hb1⟩
  have HB1 : Hid (Below W.heap.size W w1) := HB0.out.trans (hb1.mono HB0.out.size)
  clear hb1 HB0
  cases hga : greatB a with
  | true =>
    clear hga
    go_wp2
    go_ret
    exact ⟨rfl, HB1.out⟩
  | false =>
  have HGA : Hid (greatB a = false) := hga
  clear hga
  go_wp2_with fail
  refine (long_any12 (.slice ba m bc) b w1 (HA.out.2.2.2.1.below HB1.out) HA.out.2.2.2.2.1).mono ?_
  rintro e w2 ⟨rfl, hb2⟩
  have HB2 : Hid (Below W.heap.size W w2) := HB1.out.trans (hb2.mono HB1.out.size)
  clear hb2 HB1
  cases hgb : greatB b with
  | true =>
    clear hgb
    go_wp2
    go_ret
    exact ⟨rfl, HB2.out⟩
  | false =>
  have HGB : Hid (greatB b = false) := hgb
  clear hgb
  have hn20 : n ≤ 20 := by have h1 := HN.out.1; have h2 := (great_no HGA.out).1; omega
  go_wp2_with fail
  refine (Mine11.made HS.out.1 60 (by decide) HB2.out).mono ?_
  rintro e w3 ⟨q, F3, rfl, hM, hb3⟩
  have M3 : Hid (Mine11 LT W w3 q ⟨60, []⟩ F3) := hM
  clear hM hb3
  unfold dptr
  go_wp2
  go_loopw [7] (fun i wr => ∃ (k : Nat) (t : Tq.Tr) (F : Nat → Prop), k ≤ n ∧ i = .int .i64 (k : Int) ∧ Mine11 LT W wr q t F ∧ Tq.Few t k) (fun i _ => n - (intOf i).toNat)
  case atStart => exact ⟨0, _, F3, Nat.zero_le _, rfl, M3.out, Tq.few_new 60⟩
  case round =>
  obtain ⟨k, t, F, hk, rfl, hM, hfw⟩ := hrel
  have M4 : Hid (Mine11 LT W wr q t F ∧ Tq.Few t k) := ⟨hM, hfw⟩
  clear hM hfw M3
  by_cases hlt : k < n
  · have hlt' : (k : Int) < (n : Int) := by omega
    have hk0 : (0 : Int) ≤ (k : Int) := by omega
    have hwk : IntKind.wrap .i64 ((k : Int) + 1) = (k : Int) + 1 := by rw [IntKind.wrap_i64]; omega
    have hkl : k < a.length := by rw [← HN.out.1]; exact hlt
    obtain ⟨g, bb, c', hv', hcs⟩ := (HA.out.1.below M4.out.1.below).at (by omega)
    simp only [Value.slice.injEq] at hv'
    obtain ⟨rfl, hq, rfl⟩ := hv'
    obtain ⟨c0, c1, c2, c3, c4⟩ := hcs k a[k] (List.getElem?_eq_getElem hkl)
    have HO : Hid (OFit a[k]) := HA.out.2.2.1 _ (List.getElem_mem hkl)
    generalize a[k] = o at *
    clear hcs hq hkl
    go_wp2_with fail
    clear c0 c1 c2 c3 c4
    obtain ⟨x, t5, hx⟩ : ∃ x t5, Tq.doo t o 1 1 = (x, t5) := ⟨_, _, rfl⟩
    have HX : Hid (Tq.doo t o 1 1 = (x, t5) ∧ Fine11 t5 ∧ Tq.Few t5 (k + 1)) := by
      have h1 := Tq.fine_doo (o := o) (s := 1) (z := 1) M4.out.1.fine (M4.out.2.more (by omega))
      have h2 := Tq.few_doo (o := o) (s := 1) (z := 1) M4.out.2
      rw [hx] at h1 h2
      exact ⟨hx, h1, h2⟩
    clear hx
    refine (M4.out.1.doo HS.out.1 HS.out.2.2.2 o 1 1 HO.out x t5 HX.out.1 HX.out.2.1).mono ?_
    rintro e w5 ⟨F5, v5, rfl, hsq, hof, hM, hmv⟩
    have M5 : Hid (Mine11 LT W w5 q t5 F5) := hM
    clear hsq hof hM hmv
    unfold rv
    go_wp2
    go_roundw
    case rel => exact ⟨k + 1, t5, F5, by omega, by go_num, M5.out, HX.out.2.2⟩
    case measure => simp [intOf]; omega
  have hlt' : ¬ (k : Int) < (n : Int) := by omega
  go_wp2_with fail
  refine (M4.out.1.copy HS.out.1).mono ?_
  rintro e w6 ⟨q2, F2, rfl, hT, hb6⟩
  have M6 : Hid (Two12 LT W w6 q t F q2 t F2) := hT
  clear hT hb6
  unfold dptr
  go_wp2_with fail
  obtain ⟨r, B, t7, hrt⟩ : ∃ r B t7, Tq.many t 1 2 b = ((r, B), t7) := ⟨_, _, _, rfl⟩
  have HR : Hid (Tq.many t 1 2 b = ((r, B), t7)) := hrt
  clear hrt
  refine (M6.out.one.many HS.out.1 HS.out.2.1 HS.out.2.2.2 1 2 (.slice ba m bc) b k M4.out.2 (by omega) (Om12.arg HA.out.2.2.2.1 M6.out.one.below M6.out.one.hi) HA.out.2.2.2.2.2 (by have h := HA.out.2.2.2.2.1; unfold maxLen at h; omega) r B t7 HR.out).mono ?_
  rintro e w7 ⟨F7, u, rfl, hR, hM, hmv⟩
  obtain ⟨ua, uc, rfl⟩ := hR.form
  obtain ⟨L, hL⟩ : ∃ L, L = r.xs.length := ⟨_, rfl⟩
  rw [← hL] at hR ⊢
  have HL : Hid (L = r.xs.length) := hL
  clear hL
  obtain ⟨q8, hq8⟩ : ∃ z, z = w7.heap.size := ⟨_, rfl⟩
  have M8 : Hid (Two12 LT W (w7.alloc (.cells #[.int .i64 r.num, .int .i64 r.zxid, .int .i64 r.err, .int .i64 r.at_, .slice ua L uc] 73)) q t7 F7 q2 t F2 ∧ Rb12 (w7.alloc (.cells #[.int .i64 r.num, .int .i64 r.zxid, .int .i64 r.err, .int .i64 r.at_, .slice ua L uc] 73)) F2 w6.heap.size q8 r (.slice ua L uc)) := by
    have hT := M6.out.left HS.out.1 hM hmv
    have hba := (Below.refl _ w7).alloc (Nat.le_refl _) (.cells #[.int .i64 r.num, .int .i64 r.zxid, .int .i64 r.err, .int .i64 r.at_, .slice ua L uc] 73)
    refine ⟨hT.later HS.out.1 hba, ?_⟩
    rw [hq8]
    exact (Rb12.made (hM.flt HS.out.1) hR).swap (fun e => by have := HS.out.1.lt hT.two.ld e; omega) (M6.out.two.flt HS.out.1)
  have HF : Hid (Tq.Few t k ∧ k ≤ 20) := ⟨M4.out.2, by omega⟩
  clear hR hM hmv M6 M4
  unfold rpv
  go_upto_region 12 with fail
  rw [← hq8]
  clear hq8
  generalize (w7.alloc (.cells #[.int .i64 r.num, .int .i64 r.zxid, .int .i64 r.err, .int .i64 r.at_, .slice ua L uc] 73)) = w8 at *
  cases B with
  | false =>
    go_wp2
    go_ret
    exact ⟨rfl, M8.out.1.one.below⟩
  | true =>
  have HT : Hid (r = ⟨0, 2, 0, -1, Tq.says t 1 2 b⟩ ∧ t7 = Tq.after t 1 2 b ∧ m ≤ 16) := by
    have h := Tq.many_true HR.out
    exact ⟨h.1, h.2.1, by have := HN.out.2; have := h.2.2.2.1; omega⟩
  have hm16 : m ≤ 16 := HT.out.2.2
  have HLM : Hid (L = m) := by
    have e : L = m := by rw [HL.out, HT.out.1, HN.out.2]; exact Tq.says_len
    exact e
  go_wp2
  obtain ⟨n0, hn0⟩ : ∃ n0 : Nat, n0 = k := ⟨_, rfl⟩
  have HF0 : Hid (Tq.Few t n0 ∧ n0 ≤ 20) := by rw [hn0]; exact HF.out
  clear hn0 HF hlt hlt' hk
  go_loopw [11] (fun i wr => ∃ (j : Nat) (t2 : Tq.Tr) (F2 : Nat → Prop), j ≤ m ∧ i = .int .i64 (j : Int) ∧ Two12 LT W wr q t7 F7 q2 t2 F2 ∧ t2 = Tq.after t 1 2 (b.take j) ∧ Tq.Few t2 (n0 + j) ∧ Rb12 wr F2 w6.heap.size q8 r (.slice ua L uc)) (fun i _ => m - (intOf i).toNat)
  case atStart => exact ⟨0, t, F2, Nat.zero_le _, rfl, M8.out.1, rfl, HF0.out.1, M8.out.2⟩
  case round =>
  obtain ⟨j, t2, F9, hj, rfl, hT, ht2, hfw, hRb⟩ := hrel
  have M9 : Hid (Two12 LT W wr q t7 F7 q2 t2 F9 ∧ t2 = Tq.after t 1 2 (b.take j) ∧ Tq.Few t2 (n0 + j) ∧ Rb12 wr F9 w6.heap.size q8 r (.slice ua L uc)) := ⟨hT, ht2, hfw, hRb⟩
  clear hT ht2 hfw hRb M8
  by_cases hjl : j < m
  · have hlt' : (j : Int) < (m : Int) := by omega
    have hk0 : (0 : Int) ≤ (j : Int) := by omega
    have hwk : IntKind.wrap .i64 ((j : Int) + 1) = (j : Int) + 1 := by rw [IntKind.wrap_i64]; omega
    have hkl : j < b.length := by rw [← HN.out.2]; exact hjl
    obtain ⟨g, bb, c', hv', hcs⟩ := (HA.out.2.2.2.1.below M9.out.1.one.below).at (by omega)
    simp only [Value.slice.injEq] at hv'
    obtain ⟨rfl, hq, rfl⟩ := hv'
    obtain ⟨c0, c1, c2, c3, c4⟩ := hcs j b[j] (List.getElem?_eq_getElem hkl)
    have HO : Hid (OFit b[j] ∧ b[j]? = some b[j]) := ⟨HA.out.2.2.2.2.2 _ (List.getElem_mem hkl), List.getElem?_eq_getElem hkl⟩
    generalize b[j] = o at *
    clear hcs hq hkl
    go_wp2_with fail
    clear c0 c1 c2 c3 c4
    obtain ⟨x, t5, hx⟩ : ∃ x t5, Tq.doo t2 o 1 2 = (x, t5) := ⟨_, _, rfl⟩
    have HX : Hid (Tq.doo t2 o 1 2 = (x, t5) ∧ Fine11 t5 ∧ Tq.Few t5 (n0 + j + 1) ∧ x.names.length ≤ 900 ∧ t5 = Tq.after t 1 2 (b.take (j + 1)) ∧ r.xs[j]? = some x) := by
      have h1 := Tq.fine_doo (o := o) (s := 1) (z := 2) M9.out.1.two.fine (M9.out.2.2.1.more (by have := HF0.out.2; omega))
      have h2 := Tq.few_doo (o := o) (s := 1) (z := 2) M9.out.2.2.1
      have h3 := Tq.doo_names (o := o) (s := 1) (z := 2) M9.out.1.two.fine
      have e : b.take (j + 1) = b.take j ++ [o] := by rw [List.take_add_one, HO.out.2]; rfl
      have h4 : Tq.after t 1 2 (b.take (j + 1)) = (Tq.doo t2 o 1 2).2 := by rw [e, Tq.after_snoc, M9.out.2.1]
      have h5 : r.xs[j]? = some (Tq.doo t2 o 1 2).1 := by rw [HT.out.1, M9.out.2.1]; exact Tq.says_get HO.out.2
      rw [hx] at h1 h2 h3 h4 h5
      exact ⟨hx, h1, h2, h3, h4.symm, h5⟩
    clear hx
    refine (M9.out.1.two.doo HS.out.1 HS.out.2.2.2 o 1 2 HO.out.1 x t5 HX.out.1 HX.out.2.1).mono ?_
    rintro e wa ⟨Fa, va, rfl, hsq, hof, hM, hmv⟩
    have hsq2 := hsq
    obtain ⟨na, nk, nc, rfl, hj1, hj2⟩ := hsq
    obtain ⟨xb, hxb⟩ : ∃ z, z = wa.heap.size := ⟨_, rfl⟩
    have MA : Hid (Two12 LT W (wa.alloc (.cells #[.int .i64 x.err, .string x.path, .string x.data, .slice na nk nc, .int .i64 x.made, .int .i64 x.changed, .int .i64 x.ver, .int .i64 x.kids, .int .i64 x.owner, .int .i64 x.len, .int .i64 x.cnt] 31)) q t7 F7 q2 t5 Fa ∧ Rb12 (wa.alloc (.cells #[.int .i64 x.err, .string x.path, .string x.data, .slice na nk nc, .int .i64 x.made, .int .i64 x.changed, .int .i64 x.ver, .int .i64 x.kids, .int .i64 x.owner, .int .i64 x.len, .int .i64 x.cnt] 31)) Fa w6.heap.size q8 r (.slice ua L uc) ∧ Cb (wa.alloc (.cells #[.int .i64 x.err, .string x.path, .string x.data, .slice na nk nc, .int .i64 x.made, .int .i64 x.changed, .int .i64 x.ver, .int .i64 x.kids, .int .i64 x.owner, .int .i64 x.len, .int .i64 x.cnt] 31)) xb (xc x (.slice na nk nc)) 31 ∧ Sq (wa.alloc (.cells #[.int .i64 x.err, .string x.path, .string x.data, .slice na nk nc, .int .i64 x.made, .int .i64 x.changed, .int .i64 x.ver, .int .i64 x.kids, .int .i64 x.owner, .int .i64 x.len, .int .i64 x.cnt] 31)) (.slice na nk nc) x.names) := by
      have hba := (Below.refl _ wa).alloc (Nat.le_refl _) (.cells #[.int .i64 x.err, .string x.path, .string x.data, .slice na nk nc, .int .i64 x.made, .int .i64 x.changed, .int .i64 x.ver, .int .i64 x.kids, .int .i64 x.owner, .int .i64 x.len, .int .i64 x.cnt] 31)
      exact ⟨(M9.out.1.right HS.out.1 hM hmv).later HS.out.1 hba, (M9.out.2.2.2.moved hmv).later hba, by rw [hxb]; exact Cb.made wa (xc x (.slice na nk nc)) _, hsq2.below hba⟩
    clear hsq2 hof hM hmv hj1 hj2 M9
    unfold rv
    go_upto_region 18 with fail
    rw [← hxb]
    clear hxb
    generalize (wa.alloc (.cells #[.int .i64 x.err, .string x.path, .string x.data, .slice na nk nc, .int .i64 x.made, .int .i64 x.changed, .int .i64 x.ver, .int .i64 x.kids, .int .i64 x.owner, .int .i64 x.len, .int .i64 x.cnt] 31)) = wb at *
    obtain ⟨rg, rb, nv, hua, hnv, hat⟩ := MA.out.2.1.res.at11 HX.out.2.2.2.2.2
    subst hua
    have HAT : Hid (Sq wb nv x.names ∧ At11 wb rg (rb + j * 11) x nv) := ⟨hnv, hat⟩
    obtain ⟨ra, rk, rc, rfl, hj1, hj2⟩ := hnv
    clear hj1 hj2 hat
    refine wp_region_held_drew (S := (fun w' => Below wb.heap.size wb w')) (by kernel_rfl) (Below.refl _ _).drew (fun _ => ?_)
    have HC : Hid (∀ w', Below wb.heap.size wb w' → Cb w' xb (xc x (.slice na nk nc)) 31 ∧ w'.cell? ⟨q8, 4, none⟩ = some (.slice (some ⟨rg, rb, none⟩) L uc) ∧ At11 w' rg (rb + j * 11) x (.slice ra rk rc)) := fun w' hb => ⟨MA.out.2.2.1.below hb, Below.kept hb ((MA.out.2.1.blk.cb.cell 4).trans rfl), HAT.out.2.below hb⟩
    have HBD : Hid (Below wb.heap.size wb wb.drew) := (Below.refl _ _).drew
    have hjL : j < L := by have := HLM.out; omega
    have hjL' : (j : Int) < (L : Int) := by omega
    generalize wb.drew = wc at *
    refine' take_at (i := 0) (d := 59) (v := _) rfl rfl (by kernel_rfl) (by kernel_rfl) (by kernel_rfl) (fun _ _ _ h => h) (Or.inl ⟨by rfl, ?h0⟩) (HBD.out) ?_
    case h0 =>
      intro w hSw
      obtain ⟨hcb, _, _⟩ := HC.out w hSw
      have d0 : w.cell? ⟨xb, 0, none⟩ = some (.int .i64 x.err) := (hcb.cell 0).trans rfl
      have d1 : w.cell? ⟨xb, 1, none⟩ = some (.string x.path) := (hcb.cell 1).trans rfl
      have d2 : w.cell? ⟨xb, 2, none⟩ = some (.string x.data) := (hcb.cell 2).trans rfl
      have d3 : w.cell? ⟨xb, 3, none⟩ = some (.slice na nk nc) := (hcb.cell 3).trans rfl
      have d4 : w.cell? ⟨xb, 4, none⟩ = some (.int .i64 x.made) := (hcb.cell 4).trans rfl
      have d5 : w.cell? ⟨xb, 5, none⟩ = some (.int .i64 x.changed) := (hcb.cell 5).trans rfl
      have d6 : w.cell? ⟨xb, 6, none⟩ = some (.int .i64 x.ver) := (hcb.cell 6).trans rfl
      have d7 : w.cell? ⟨xb, 7, none⟩ = some (.int .i64 x.kids) := (hcb.cell 7).trans rfl
      have d8 : w.cell? ⟨xb, 8, none⟩ = some (.int .i64 x.owner) := (hcb.cell 8).trans rfl
      have d9 : w.cell? ⟨xb, 9, none⟩ = some (.int .i64 x.len) := (hcb.cell 9).trans rfl
      have d10 : w.cell? ⟨xb, 10, none⟩ = some (.int .i64 x.cnt) := (hcb.cell 10).trans rfl
      go_simp
      with_reducible rfl
    simp only [List.setIfInBounds_toArray, List.set_cons_zero, List.set_cons_succ]
    refine' take_at (i := 1) (d := 60) (v := _) rfl rfl (by kernel_rfl) (by kernel_rfl) (by kernel_rfl) (fun _ _ _ h => h) (Or.inl ⟨by rfl, ?h1⟩) (HBD.out) ?_
    case h1 =>
      intro w hSw
      obtain ⟨_, lx, _⟩ := HC.out w hSw
      go_simp
      with_reducible rfl
    simp only [List.setIfInBounds_toArray, List.set_cons_zero, List.set_cons_succ]
    refine' take_at (i := 2) (d := 61) (v := _) rfl rfl (by kernel_rfl) (by kernel_rfl) (by kernel_rfl) (fun _ _ _ h => h) (Or.inl ⟨by rfl, ?h2⟩) (HBD.out) ?_
    case h2 =>
      intro w hSw
      obtain ⟨_, lx, _⟩ := HC.out w hSw
      go_simp
      with_reducible rfl
    simp only [List.setIfInBounds_toArray, List.set_cons_zero, List.set_cons_succ]
    refine' take_at (i := 3) (d := 62) (v := _) rfl rfl (by kernel_rfl) (by kernel_rfl) (by kernel_rfl) (fun _ _ _ h => h) (Or.inl ⟨by rfl, ?h3⟩) (HBD.out) ?_
    case h3 =>
      intro w hSw
      obtain ⟨_, lx, _⟩ := HC.out w hSw
      go_simp
      with_reducible rfl
    simp only [List.setIfInBounds_toArray, List.set_cons_zero, List.set_cons_succ]
    refine' take_at (i := 4) (d := 63) (v := _) rfl rfl (by kernel_rfl) (by kernel_rfl) (by kernel_rfl) (fun _ _ _ h => h) (Or.inl ⟨by rfl, ?h4⟩) (HBD.out) ?_
    case h4 =>
      intro w hSw
      obtain ⟨_, lx, _⟩ := HC.out w hSw
      go_simp
      with_reducible rfl
    simp only [List.setIfInBounds_toArray, List.set_cons_zero, List.set_cons_succ]
    refine' take_at (i := 5) (d := 64) (v := _) rfl rfl (by kernel_rfl) (by kernel_rfl) (by kernel_rfl) (fun _ _ _ h => h) (Or.inl ⟨by rfl, ?h5⟩) (HBD.out) ?_
    case h5 =>
      intro w hSw
      obtain ⟨_, _, e0, e1, e2, e3, e4, e5, e6, e7, e8, e9, e10⟩ := HC.out w hSw
      go_simp
      with_reducible rfl
    simp only [List.setIfInBounds_toArray, List.set_cons_zero, List.set_cons_succ]
    refine wpAnyH_ready (rs := [6]) (by kernel_rfl) (by simp) ?_
    refine AllReadyH.cons (o := _) rfl (fun KQ hKQ => ?_) AllReadyH.nil
    go_simp
    refine (refOne_any True x x (.slice na nk nc) (.slice ra rk rc) wc (MA.out.2.2.2.below HBD.out) (HAT.out.1.below HBD.out) (by have := HX.out.2.2.2.1; omega) (by have := HX.out.2.2.2.1; omega) ⟨fun _ => rfl, fun _ => trivial⟩).mono ?_
    rintro e wd ⟨R1, rfl, hR1, hbd⟩
    obtain rfl : R1 = true := hR1.2 trivial
    have HD : Hid (Below wb.heap.size wb wd) := HBD.out.trans (hbd.mono HBD.out.size)
    clear hR1 hbd
    simp only []
    refine hKQ.out _ _ HD.out (fun _ => ?_)
    clear hKQ KQ
    refine' take_at (i := 7) (d := 66) (v := _) rfl rfl (by kernel_rfl) (by kernel_rfl) (by kernel_rfl) (fun _ _ _ h => h) (Or.inl ⟨by rfl, ?h7⟩) (HD.out) ?_
    case h7 =>
      intro w hSw
      go_simp
      with_reducible rfl
    simp only [List.setIfInBounds_toArray, List.set_cons_zero, List.set_cons_succ]
    refine wpAnyH_done (by kernel_rfl) ?_ _
    go_wp2
    go_roundw
    case rel => exact ⟨j + 1, t5, Fa, by omega, by go_num, MA.out.1.later HS.out.1 HD.out, HX.out.2.2.2.2.1, HX.out.2.2.1, MA.out.2.1.later HD.out⟩
    case measure => simp [intOf]; omega
  · have hlt' : ¬ (j : Int) < (m : Int) := by omega
    have HE : Hid (t2 = t7) := by
      have e : t2 = t7 := by rw [M9.out.2.1, HT.out.2.1, List.take_of_length_le (by rw [← HN.out.2]; omega)]
      exact e
    go_wp2_with fail
    refine (M9.out.1.one.own HS.out.1 HS.out.2.2.1 60).mono ?_
    rintro e wa ⟨qa, va, es, rfl, hRa, hes, hba⟩
    have MA : Hid (Two12 LT W wa q t7 F7 q2 t2 F9 ∧ Ro11 W wa F7 qa 60 va es ∧ es.map (·.1) = t7.l) := ⟨M9.out.1.later HS.out.1 hba, hRa, hes⟩
    clear hRa hes hba
    unfold dptr
    go_wp2_with fail
    refine (MA.out.1.two.own HS.out.1 HS.out.2.2.1 60).mono ?_
    rintro e wb ⟨qb, vb, es2, rfl, hRb, hes2, hbb⟩
    have MB : Hid (Below W.heap.size W wb ∧ Ro11 W wb F7 qa 60 va es ∧ es.map (·.1) = t7.l ∧ Ro11 W wb F9 qb 60 vb es2 ∧ es2.map (·.1) = t7.l ∧ Fine11 t7) := ⟨MA.out.1.one.below.trans (hbb.mono MA.out.1.one.below.size), MA.out.2.1.later hbb, MA.out.2.2, hRb, by rw [hes2, HE.out], MA.out.1.one.fine⟩
    clear hRb hes2 hbb MA
    unfold dptr
    go_wp2_with fail
    refine (MB.out.2.1.alike MB.out.2.2.2.1 MB.out.2.2.1 MB.out.2.2.2.2.1 MB.out.2.2.2.2.2).mono ?_
    rintro e wz ⟨rfl, hbz⟩
    have HZ : Hid (Below W.heap.size W wz) := MB.out.1.trans (hbz.mono MB.out.1.size)
    clear hbz
    go_wp2
    go_ret
    exact ⟨rfl, HZ.out⟩
end Go.Proofs.YtfcbdjjbchcpjaaGreatDoor
