/- MultiNone's walk. -/
import Derived.Test.YtfcbdjjbchcpjaaGreatDoorArg12
namespace Go.Proofs.YtfcbdjjbchcpjaaGreatDoor
open Go.RowKit

set_option maxRecDepth 20000 in
set_option maxHeartbeats 8000000 in
theorem none_any12 {LT : Rep11} (S : Specs11 LT) (D : SpecD12 LT) (R : SpecR11 LT) (va vb : Value) (a b : List O) (W : World) (hS : Pa.Std W) (ha : Ol W va a) (hla : a.length ≤ maxLen) (hfa : ∀ o ∈ a, OFit o) (hb : Ol W vb b) (hlb : b.length ≤ maxLen) (hfb : ∀ o ∈ b, OFit o) :
    Calls Tryz.prog 11 #[va, vb] W fun e w' => e = .returned (.bool true) ∧ Below W.heap.size W w' := by
  have HS : Hid (Specs11 LT ∧ SpecD12 LT ∧ SpecR11 LT ∧ Pa.Std W) := ⟨S, D, R, hS⟩
  have HA : Hid (Ol W va a ∧ a.length ≤ maxLen ∧ (∀ o ∈ a, OFit o) ∧ Ol W vb b ∧ b.length ≤ maxLen ∧ ∀ o ∈ b, OFit o) := ⟨ha, hla, hfa, hb, hlb, hfb⟩
  obtain ⟨aa, n, ac, rfl, hn, hjj⟩ := ha
  obtain ⟨ba, m, bc, rfl, hm, hjj2⟩ := hb
  have HN : Hid (n = a.length ∧ m = b.length) := ⟨hn, hm⟩
  clear S D R hS hla hfa hlb hfb hn hm hjj hjj2
  go_enter Tryz.func11, Tryz.ntmps11
  go_wp2_with fail
  refine (awake_any12 HS.out.1 HS.out.2.1 W HS.out.2.2.2).mono ?_
  rintro e w0 ⟨rfl, hb0⟩
  have HB0 : Hid (Below W.heap.size W w0) := hb0
  clear hb0
  go_wp2_with fail
  refine (long_any12 (.slice aa n ac) a w0 (HA.out.1.below HB0.out) HA.out.2.1).mono ?_
  rintro e w1 ⟨rfl, hb1⟩
  have HB1 : Hid (Below W.heap.size W w1) := HB0.out.trans (hb1.mono HB0.out.size)
  clear hb1 HB0
  cases hga : greatB a with
  | true =>
    clear hga
    go_wp2
    go_ret
    exact ⟨rfl, HB1.out⟩
  | false =>
  have HGA : Hid (greatB a = false) := hga
  clear hga
  go_wp2_with fail
  refine (long_any12 (.slice ba m bc) b w1 (HA.out.2.2.2.1.below HB1.out) HA.out.2.2.2.2.1).mono ?_
  rintro e w2 ⟨rfl, hb2⟩
  have HB2 : Hid (Below W.heap.size W w2) := HB1.out.trans (hb2.mono HB1.out.size)
  clear hb2 HB1
  cases hgb : greatB b with
  | true =>
    clear hgb
    go_wp2
    go_ret
    exact ⟨rfl, HB2.out⟩
  | false =>
  have HGB : Hid (greatB b = false) := hgb
  clear hgb
  have hn20 : n ≤ 20 := by have h1 := HN.out.1; have h2 := (great_no HGA.out).1; omega
  go_wp2_with fail
  refine (Mine11.made HS.out.1 60 (by decide) HB2.out).mono ?_
  rintro e w3 ⟨q, F3, rfl, hM, hb3⟩
  have M3 : Hid (Mine11 LT W w3 q ⟨60, []⟩ F3) := hM
  clear hM hb3
  unfold dptr
  go_wp2
  go_loopw [7] (fun i wr => ∃ (k : Nat) (t : Tq.Tr) (F : Nat → Prop), k ≤ n ∧ i = .int .i64 (k : Int) ∧ Mine11 LT W wr q t F ∧ Tq.Few t k) (fun i _ => n - (intOf i).toNat)
  case atStart => exact ⟨0, _, F3, Nat.zero_le _, rfl, M3.out, Tq.few_new 60⟩
  case round =>
  obtain ⟨k, t, F, hk, rfl, hM, hfw⟩ := hrel
  have M4 : Hid (Mine11 LT W wr q t F ∧ Tq.Few t k) := ⟨hM, hfw⟩
  clear hM hfw M3
  by_cases hlt : k < n
  · have hlt' : (k : Int) < (n : Int) := by omega
    have hk0 : (0 : Int) ≤ (k : Int) := by omega
    have hwk : IntKind.wrap .i64 ((k : Int) + 1) = (k : Int) + 1 := by rw [IntKind.wrap_i64]; omega
    have hkl : k < a.length := by rw [← HN.out.1]; exact hlt
    obtain ⟨g, bb, c', hv', hcs⟩ := (HA.out.1.below M4.out.1.below).at (by omega)
    simp only [Value.slice.injEq] at hv'
    obtain ⟨rfl, hq, rfl⟩ := hv'
    obtain ⟨c0, c1, c2, c3, c4⟩ := hcs k a[k] (List.getElem?_eq_getElem hkl)
    have HO : Hid (OFit a[k]) := HA.out.2.2.1 _ (List.getElem_mem hkl)
    generalize a[k] = o at *
    clear hcs hq hkl
    go_wp2_with fail
    clear c0 c1 c2 c3 c4
    obtain ⟨x, t5, hx⟩ : ∃ x t5, Tq.doo t o 1 1 = (x, t5) := ⟨_, _, rfl⟩
    have HX : Hid (Tq.doo t o 1 1 = (x, t5) ∧ Fine11 t5 ∧ Tq.Few t5 (k + 1)) := by
      have h1 := Tq.fine_doo (o := o) (s := 1) (z := 1) M4.out.1.fine (M4.out.2.more (by omega))
      have h2 := Tq.few_doo (o := o) (s := 1) (z := 1) M4.out.2
      rw [hx] at h1 h2
      exact ⟨hx, h1, h2⟩
    clear hx
    refine (M4.out.1.doo HS.out.1 HS.out.2.2.2 o 1 1 HO.out x t5 HX.out.1 HX.out.2.1).mono ?_
    rintro e w5 ⟨F5, v5, rfl, hsq, hof, hM, hmv⟩
    have M5 : Hid (Mine11 LT W w5 q t5 F5) := hM
    clear hsq hof hM hmv
    unfold rv
    go_wp2
    go_roundw
    case rel => exact ⟨k + 1, t5, F5, by omega, by go_num, M5.out, HX.out.2.2⟩
    case measure => simp [intOf]; omega
  have hlt' : ¬ (k : Int) < (n : Int) := by omega
  go_wp2_with fail
  refine (M4.out.1.own HS.out.1 HS.out.2.2.1 60).mono ?_
  rintro e w6 ⟨q6, v6, es, rfl, hR6, hes, hb6⟩
  have M6 : Hid (Mine11 LT W w6 q t F ∧ Ro11 W w6 F q6 60 v6 es ∧ es.map (·.1) = t.l) := ⟨M4.out.1.later HS.out.1 hb6, hR6, hes⟩
  clear hR6 hes hb6
  unfold dptr
  go_wp2_with fail
  obtain ⟨r, B, t7, hrt⟩ : ∃ r B t7, Tq.many t 1 2 b = ((r, B), t7) := ⟨_, _, _, rfl⟩
  have HR : Hid (Tq.many t 1 2 b = ((r, B), t7)) := hrt
  clear hrt
  refine (M6.out.1.many HS.out.1 HS.out.2.1 HS.out.2.2.2 1 2 (.slice ba m bc) b k M4.out.2 (by omega) (Om12.arg HA.out.2.2.2.1 M6.out.1.below M6.out.1.hi) HA.out.2.2.2.2.2 (by have h := HA.out.2.2.2.2.1; unfold maxLen at h; omega) r B t7 HR.out).mono ?_
  rintro e w7 ⟨F7, u, rfl, hR, hM, hmv⟩
  obtain ⟨ua, uc, rfl⟩ := hR.form
  obtain ⟨L, hL⟩ : ∃ L, L = r.xs.length := ⟨_, rfl⟩
  rw [← hL] at hR ⊢
  have HL : Hid (L = r.xs.length) := hL
  clear hL
  obtain ⟨q8, hq8⟩ : ∃ z, z = w7.heap.size := ⟨_, rfl⟩
  have M8 : Hid (Mine11 LT W (w7.alloc (.cells #[.int .i64 r.num, .int .i64 r.zxid, .int .i64 r.err, .int .i64 r.at_, .slice ua L uc] 73)) q t7 F7 ∧ Rb12 (w7.alloc (.cells #[.int .i64 r.num, .int .i64 r.zxid, .int .i64 r.err, .int .i64 r.at_, .slice ua L uc] 73)) F7 w6.heap.size q8 r (.slice ua L uc) ∧ Ro11 W (w7.alloc (.cells #[.int .i64 r.num, .int .i64 r.zxid, .int .i64 r.err, .int .i64 r.at_, .slice ua L uc] 73)) F7 q6 60 v6 es) := ⟨hM.later HS.out.1 ((Below.refl _ w7).alloc (Nat.le_refl _) _), by rw [hq8]; exact Rb12.made (hM.flt HS.out.1) hR, (M6.out.2.1.moved hmv).later ((Below.refl _ w7).alloc (Nat.le_refl _) _)⟩
  have HE : Hid (es.map (·.1) = t.l ∧ Fine11 t) := ⟨M6.out.2.2, M6.out.1.fine⟩
  clear hR hM hmv M6 M4
  unfold rpv
  go_upto_region 12 with fail
  rw [← hq8]
  clear hq8
  generalize (w7.alloc (.cells #[.int .i64 r.num, .int .i64 r.zxid, .int .i64 r.err, .int .i64 r.at_, .slice ua L uc] 73)) = w8 at *
  have p1 : w8.cell? ⟨q8, 1, none⟩ = some (.int .i64 r.zxid) := (M8.out.2.1.blk.cb.cell 1).trans rfl
  have p2 : w8.cell? ⟨q8, 2, none⟩ = some (.int .i64 r.err) := (M8.out.2.1.blk.cb.cell 2).trans rfl
  have p4 : w8.cell? ⟨q8, 4, none⟩ = some (.slice ua L uc) := (M8.out.2.1.blk.cb.cell 4).trans rfl
  cases B with
  | true =>
    have HT := Tq.many_true HR.out
    have p2' : w8.cell? ⟨q8, 2, none⟩ = some (.int .i64 0) := by rw [p2, HT.1]
    have hLm : L = m := by rw [HL.out, HT.1, HN.out.2]; exact Tq.says_len
    clear p2 HT HL
    subst hLm
    go_wp2
    go_ret
    exact ⟨rfl, M8.out.1.below⟩
  | false =>
    have HT := Tq.many_false HR.out
    have p1' : w8.cell? ⟨q8, 1, none⟩ = some (.int .i64 0) := by rw [p1, HT.2.2]
    have hne : (r.err != 0) = true := by simp [HT.2.1]
    have H8 : Hid (Mine11 LT W w8 q t F7 ∧ Ro11 W w8 F7 q6 60 v6 es) := by rw [← HT.1]; exact ⟨M8.out.1, M8.out.2.2⟩
    clear p1 HT HL
    go_wp2_with fail
    refine (H8.out.1.own HS.out.1 HS.out.2.2.1 60).mono ?_
    rintro e w9 ⟨q9, v9, es9, rfl, hR9, hes9, hb9⟩
    have H9 : Hid (Below W.heap.size W w9 ∧ Ro11 W w9 F7 q6 60 v6 es ∧ Ro11 W w9 F7 q9 60 v9 es9 ∧ es9.map (·.1) = t.l) := ⟨H8.out.1.below.trans (hb9.mono H8.out.1.below.size), H8.out.2.later hb9, hR9, hes9⟩
    clear hR9 hes9 hb9 p1' p2 p4
    unfold dptr
    go_wp2_with fail
    refine (H9.out.2.2.1.alike H9.out.2.1 H9.out.2.2.2 HE.out.1 HE.out.2).mono ?_
    rintro e wz ⟨rfl, hbz⟩
    have HZ : Hid (Below W.heap.size W wz) := H9.out.1.trans (hbz.mono H9.out.1.size)
    clear hbz
    go_wp2
    go_ret
    exact ⟨rfl, HZ.out⟩
end Go.Proofs.YtfcbdjjbchcpjaaGreatDoor
