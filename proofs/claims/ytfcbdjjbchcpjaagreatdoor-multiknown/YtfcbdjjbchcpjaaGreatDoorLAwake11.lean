/- What the statements' own made and awake answer. -/
import Derived.Test.YtfcbdjjbchcpjaaGreatDoorSpecs11
import Derived.Test.YtfcbdjjbchcpjaaGreatDoorPln
import Derived.Test.YtfcbdjjbchcpjaaGreatDoorWnd
namespace Go.Proofs.YtfcbdjjbchcpjaaGreatDoor.Tq
def pA : ByteArray := ⟨#[47, 97]⟩
def pAB : ByteArray := ⟨#[47, 97, 47, 98]⟩
def aw1 : X × Tr := doo ⟨10, []⟩ (mk pA 0) 1 7
def aw2 : X × Tr := doo aw1.2 (mk pAB 2) 1 8
theorem aw1_says : aw1.1.err = 0 ∧ aw1.1.path = pA ∧ aw1.1.made = 7 ∧ aw1.1.names = [] := ⟨by kernel_rfl, by kernel_rfl, by kernel_rfl, by kernel_rfl⟩
theorem aw2_says : aw2.1.err = 0 ∧ aw2.1.path = ⟨#[47, 97, 47, 98, 48, 48, 48, 48, 48, 48, 48, 48, 48, 48]⟩ ∧ aw2.1.names = [] ∧ aw2.2.l.length = 2 ∧ (find aw2.2.l pA).map (·.cnt) = some 1 := ⟨by kernel_rfl, by kernel_rfl, by kernel_rfl, by kernel_rfl, by kernel_rfl⟩
theorem few_new (n : Int) : Few ⟨n, []⟩ 0 := fun e he => by cases he
theorem aw_fine : Fine11 aw1.2 ∧ Fine11 aw2.2 := by
  have f0 : Fine11 ⟨10, []⟩ := fine11_new (by decide)
  have f1 : Fine11 aw1.2 := fine_doo f0 ((few_new 10).more (by decide))
  have k1 : Few aw1.2 1 := few_doo (few_new 10)
  exact ⟨f1, fine_doo f1 (k1.more (by decide))⟩
end Go.Proofs.YtfcbdjjbchcpjaaGreatDoor.Tq
namespace Go.Proofs.YtfcbdjjbchcpjaaGreatDoor
open Go.RowKit

section
variable {LT : Rep11} {W w : World}
theorem Mine11.made (S : Specs11 LT) (n : Int) (hn : ¬ (n < 1 ∨ 500 < n)) (hW : Below W.heap.size W w) :
    Calls Tryz.prog 16 #[.int .i64 n] w fun e w' => ∃ q F, e = .returned (.tuple #[dptr q, .int .i64 0]) ∧ Mine11 LT W w' q ⟨n, []⟩ F ∧ Below w.heap.size w w' := by
  refine (S.new n w).mono ?_
  rintro e w' ⟨hb, h⟩
  rw [if_neg hn] at h
  obtain ⟨q, F, rfl, h1, h2⟩ := h
  exact ⟨q, F, rfl, ⟨h1, fine11_new hn, fun k hk => Nat.le_trans hW.size (h2 k hk), hW.trans (hb.mono hW.size)⟩, hb⟩
end

set_option maxRecDepth 20000 in
set_option maxHeartbeats 1000000 in
theorem made_any11 (p : ByteArray) (f : Int) (w : World) :
    Calls Tryz.prog 18 #[.string p, .int .i64 f] w fun e w' => e = .returned (ov (Tq.mk p f)) ∧ Below w.heap.size w w' := by
  go_enter Tryz.func18, Tryz.ntmps18
  go_wp2
  refine bodyPost_ret (v := .agg #[.int .i64 1, .string p, .string ⟨#[]⟩, .int .i64 0, .int .i64 f]) ?_ rfl ⟨rfl, (Below.refl _ w).alloc (Nat.le_refl _) _⟩
  rw [results_one10 rfl]
  go_simp

theorem fit_mk {p : ByteArray} {f : Int} (hp : p.size ≤ maxLen) (hf : -9223372036854775808 ≤ f ∧ f ≤ 9223372036854775807) : OFit (Tq.mk p f) := ⟨by simp [Tq.mk], hp, by simp [Tq.mk, maxLen, ByteArray.size], by simp [Tq.mk], hf⟩

set_option maxRecDepth 20000 in
set_option maxHeartbeats 4000000 in
theorem awake_any11 {LT : Rep11} (S : Specs11 LT) (W : World) (hS : Pa.Std W) :
    Calls Tryz.prog 15 #[] W fun e w' => e = .returned (.bool true) ∧ Below W.heap.size W w' := by
  have HS : Hid (Specs11 LT ∧ Pa.Std W) := ⟨S, hS⟩
  clear S hS
  go_enter Tryz.func15, Tryz.ntmps15
  go_wp2_with fail
  refine (Mine11.made HS.out.1 10 (by decide) (Below.refl _ W)).mono ?_
  rintro e w1 ⟨q, F1, rfl, hM, hb⟩
  have M1 : Hid (Mine11 LT W w1 q ⟨10, []⟩ F1) := hM
  clear hM hb
  go_wp2_with fail
  refine (made_any11 Tq.pA 0 w1).mono ?_
  rintro e w2 ⟨rfl, hb⟩
  have M2 : Hid (Mine11 LT W w2 q ⟨10, []⟩ F1) := M1.out.later HS.out.1 hb
  clear hb M1
  unfold ov Tq.mk
  simp only []
  go_wp2_with fail
  obtain ⟨x1, hx1⟩ : ∃ x, x = Tq.aw1.1 := ⟨_, rfl⟩
  obtain ⟨t1, ht1⟩ : ∃ x, x = Tq.aw1.2 := ⟨_, rfl⟩
  have HX1 : Hid (x1 = Tq.aw1.1 ∧ t1 = Tq.aw1.2) := ⟨hx1, ht1⟩
  refine (M2.out.doo HS.out.1 HS.out.2 (Tq.mk Tq.pA 0) 1 7 (fit_mk (by unfold maxLen; decide) (by decide)) x1 t1 (by rw [hx1, ht1]; rfl) (by rw [ht1]; exact Tq.aw_fine.1)).mono ?_
  clear hx1 ht1
  rintro e w3 ⟨F3, v3, rfl, hsq, hof, hM, hmv⟩
  have M3 : Hid (Mine11 LT W w3 q t1 F3) := hM
  clear hof hM hmv M2
  obtain ⟨a3, n3, c3, rfl, hj1, hj2⟩ := hsq
  clear hj1 hj2
  obtain ⟨q3, hq3⟩ : ∃ z, z = w3.heap.size := ⟨_, rfl⟩
  have hba := (Below.refl _ w3).alloc (Nat.le_refl _) (.cells #[.int .i64 x1.err, .string x1.path, .string x1.data, .slice a3 n3 c3, .int .i64 x1.made, .int .i64 x1.changed, .int .i64 x1.ver, .int .i64 x1.kids, .int .i64 x1.owner, .int .i64 x1.len, .int .i64 x1.cnt] 31)
  have M4 : Hid (Mine11 LT W (w3.alloc (.cells #[.int .i64 x1.err, .string x1.path, .string x1.data, .slice a3 n3 c3, .int .i64 x1.made, .int .i64 x1.changed, .int .i64 x1.ver, .int .i64 x1.kids, .int .i64 x1.owner, .int .i64 x1.len, .int .i64 x1.cnt] 31)) q t1 F3 ∧ Kept11 (w3.alloc (.cells #[.int .i64 x1.err, .string x1.path, .string x1.data, .slice a3 n3 c3, .int .i64 x1.made, .int .i64 x1.changed, .int .i64 x1.ver, .int .i64 x1.kids, .int .i64 x1.owner, .int .i64 x1.len, .int .i64 x1.cnt] 31)) F3 q3 (xc x1 (.slice a3 n3 c3)) 31) := ⟨M3.out.later HS.out.1 hba, by rw [hq3]; exact Kept11.made w3 F3 (fun k hk => HS.out.1.lt M3.out.ld hk) _ _⟩
  clear hba M3
  unfold rv
  go_wp2_with fail
  rw [← hq3]
  clear hq3
  generalize w3.alloc (.cells #[.int .i64 x1.err, .string x1.path, .string x1.data, .slice a3 n3 c3, .int .i64 x1.made, .int .i64 x1.changed, .int .i64 x1.ver, .int .i64 x1.kids, .int .i64 x1.owner, .int .i64 x1.len, .int .i64 x1.cnt] 31) = w4 at *
  refine (made_any11 Tq.pAB 2 w4).mono ?_
  rintro e w5 ⟨rfl, hb⟩
  have M5 : Hid (Mine11 LT W w5 q t1 F3 ∧ Kept11 w5 F3 q3 (xc x1 (.slice a3 n3 c3)) 31) := ⟨M4.out.1.later HS.out.1 hb, M4.out.2.later hb⟩
  clear hb M4
  unfold ov Tq.mk
  simp only []
  go_wp2_with fail
  obtain ⟨x2, hx2⟩ : ∃ x, x = Tq.aw2.1 := ⟨_, rfl⟩
  obtain ⟨t2, ht2⟩ : ∃ x, x = Tq.aw2.2 := ⟨_, rfl⟩
  have HX2 : Hid (x2 = Tq.aw2.1 ∧ t2 = Tq.aw2.2) := ⟨hx2, ht2⟩
  refine (M5.out.1.doo HS.out.1 HS.out.2 (Tq.mk Tq.pAB 2) 1 8 (fit_mk (by unfold maxLen; decide) (by decide)) x2 t2 (by rw [hx2, ht2, HX1.out.2]; rfl) (by rw [ht2]; exact Tq.aw_fine.2)).mono ?_
  clear hx2 ht2
  rintro e w6 ⟨F6, v6, rfl, hsq, hof, hM, hmv⟩
  have M6 : Hid (Mine11 LT W w6 q t2 F6 ∧ Kept11 w6 F6 q3 (xc x1 (.slice a3 n3 c3)) 31) := ⟨hM, M5.out.2.moved hmv⟩
  clear hof hM hmv M5
  obtain ⟨a6, n6, c6, rfl, hj1, hj2⟩ := hsq
  clear hj1 hj2
  obtain ⟨q6, hq6⟩ : ∃ z, z = w6.heap.size := ⟨_, rfl⟩
  have hba := (Below.refl _ w6).alloc (Nat.le_refl _) (.cells #[.int .i64 x2.err, .string x2.path, .string x2.data, .slice a6 n6 c6, .int .i64 x2.made, .int .i64 x2.changed, .int .i64 x2.ver, .int .i64 x2.kids, .int .i64 x2.owner, .int .i64 x2.len, .int .i64 x2.cnt] 31)
  have M7 : Hid (Mine11 LT W (w6.alloc (.cells #[.int .i64 x2.err, .string x2.path, .string x2.data, .slice a6 n6 c6, .int .i64 x2.made, .int .i64 x2.changed, .int .i64 x2.ver, .int .i64 x2.kids, .int .i64 x2.owner, .int .i64 x2.len, .int .i64 x2.cnt] 31)) q t2 F6 ∧ Kept11 (w6.alloc (.cells #[.int .i64 x2.err, .string x2.path, .string x2.data, .slice a6 n6 c6, .int .i64 x2.made, .int .i64 x2.changed, .int .i64 x2.ver, .int .i64 x2.kids, .int .i64 x2.owner, .int .i64 x2.len, .int .i64 x2.cnt] 31)) F6 q3 (xc x1 (.slice a3 n3 c3)) 31 ∧ Kept11 (w6.alloc (.cells #[.int .i64 x2.err, .string x2.path, .string x2.data, .slice a6 n6 c6, .int .i64 x2.made, .int .i64 x2.changed, .int .i64 x2.ver, .int .i64 x2.kids, .int .i64 x2.owner, .int .i64 x2.len, .int .i64 x2.cnt] 31)) F6 q6 (xc x2 (.slice a6 n6 c6)) 31) := ⟨M6.out.1.later HS.out.1 hba, M6.out.2.later hba, by rw [hq6]; exact Kept11.made w6 F6 (fun k hk => HS.out.1.lt M6.out.1.ld hk) _ _⟩
  clear hba M6
  unfold rv
  go_wp2_with fail
  rw [← hq6]
  clear hq6
  generalize w6.alloc (.cells #[.int .i64 x2.err, .string x2.path, .string x2.data, .slice a6 n6 c6, .int .i64 x2.made, .int .i64 x2.changed, .int .i64 x2.ver, .int .i64 x2.kids, .int .i64 x2.owner, .int .i64 x2.len, .int .i64 x2.cnt] 31) = w7 at *
  refine (M7.out.1.node HS.out.1 Tq.pA (by unfold maxLen; decide)).mono ?_
  rintro e w8 ⟨F8, hnp, hM, hmv⟩
  obtain ⟨n8, hn8, hc8⟩ : ∃ n, Tq.find t2.l Tq.pA = some n ∧ n.cnt = 1 := by
    have h := Tq.aw2_says.2.2.2.2
    rw [← HX2.out.2] at h
    cases hf : Tq.find t2.l Tq.pA with
    | none => rw [hf] at h; cases h
    | some n => rw [hf] at h; exact ⟨n, rfl, Option.some.inj h⟩
  obtain ⟨v8, rfl, hsq, hof⟩ := hnp.1 n8 hn8
  have M8 : Hid (Mine11 LT W w8 q t2 F8 ∧ Kept11 w8 F8 q3 (xc x1 (.slice a3 n3 c3)) 31 ∧ Kept11 w8 F8 q6 (xc x2 (.slice a6 n6 c6)) 31) := ⟨hM, M7.out.2.1.moved hmv, M7.out.2.2.moved hmv⟩
  have HC8 : Hid (n8.cnt = 1) := hc8
  clear hof hM hmv M7 hnp hn8 hc8
  obtain ⟨a8, k8, c8, rfl, hj1, hj2⟩ := hsq
  clear hj1 hj2
  obtain ⟨q8, hq8⟩ : ∃ z, z = w8.heap.size := ⟨_, rfl⟩
  have hba := (Below.refl _ w8).alloc (Nat.le_refl _) (.cells #[.int .i64 n8.made, .int .i64 n8.changed, .int .i64 n8.ver, .int .i64 n8.kids, .int .i64 n8.owner, .int .i64 n8.len, .int .i64 n8.cnt, .string n8.data, .int .i64 n8.next, .slice a8 k8 c8] 38)
  have M9 : Hid (Mine11 LT W (w8.alloc (.cells #[.int .i64 n8.made, .int .i64 n8.changed, .int .i64 n8.ver, .int .i64 n8.kids, .int .i64 n8.owner, .int .i64 n8.len, .int .i64 n8.cnt, .string n8.data, .int .i64 n8.next, .slice a8 k8 c8] 38)) q t2 F8 ∧ Kept11 (w8.alloc (.cells #[.int .i64 n8.made, .int .i64 n8.changed, .int .i64 n8.ver, .int .i64 n8.kids, .int .i64 n8.owner, .int .i64 n8.len, .int .i64 n8.cnt, .string n8.data, .int .i64 n8.next, .slice a8 k8 c8] 38)) F8 q3 (xc x1 (.slice a3 n3 c3)) 31 ∧ Kept11 (w8.alloc (.cells #[.int .i64 n8.made, .int .i64 n8.changed, .int .i64 n8.ver, .int .i64 n8.kids, .int .i64 n8.owner, .int .i64 n8.len, .int .i64 n8.cnt, .string n8.data, .int .i64 n8.next, .slice a8 k8 c8] 38)) F8 q6 (xc x2 (.slice a6 n6 c6)) 31 ∧ Kept11 (w8.alloc (.cells #[.int .i64 n8.made, .int .i64 n8.changed, .int .i64 n8.ver, .int .i64 n8.kids, .int .i64 n8.owner, .int .i64 n8.len, .int .i64 n8.cnt, .string n8.data, .int .i64 n8.next, .slice a8 k8 c8] 38)) F8 q8 (k10 n8 (.slice a8 k8 c8)) 38) := ⟨M8.out.1.later HS.out.1 hba, M8.out.2.1.later hba, M8.out.2.2.later hba, by rw [hq8]; exact Kept11.made w8 F8 (fun k hk => HS.out.1.lt M8.out.1.ld hk) _ _⟩
  clear hba M8
  unfold kv
  go_upto_region 7 with fail
  rw [← hq8]
  clear hq8
  generalize w8.alloc (.cells #[.int .i64 n8.made, .int .i64 n8.changed, .int .i64 n8.ver, .int .i64 n8.kids, .int .i64 n8.owner, .int .i64 n8.len, .int .i64 n8.cnt, .string n8.data, .int .i64 n8.next, .slice a8 k8 c8] 38) = w9 at *
  have r0 : w9.cell? ⟨q3, 0, none⟩ = some (.int .i64 0) := by
    have h := M9.out.2.1.cb.cell 0
    rw [show (xc x1 (.slice a3 n3 c3))[0]? = some (.int .i64 x1.err) from rfl, HX1.out.1, Tq.aw1_says.1] at h
    exact h
  have r1 : w9.cell? ⟨q3, 1, none⟩ = some (.string ⟨#[47, 97]⟩) := by
    have h := M9.out.2.1.cb.cell 1
    rw [show (xc x1 (.slice a3 n3 c3))[1]? = some (.string x1.path) from rfl, HX1.out.1, Tq.aw1_says.2.1] at h
    exact h
  have r4 : w9.cell? ⟨q3, 4, none⟩ = some (.int .i64 7) := by
    have h := M9.out.2.1.cb.cell 4
    rw [show (xc x1 (.slice a3 n3 c3))[4]? = some (.int .i64 x1.made) from rfl, HX1.out.1, Tq.aw1_says.2.2.1] at h
    exact h
  have s0 : w9.cell? ⟨q6, 0, none⟩ = some (.int .i64 0) := by
    have h := M9.out.2.2.1.cb.cell 0
    rw [show (xc x2 (.slice a6 n6 c6))[0]? = some (.int .i64 x2.err) from rfl, HX2.out.1, Tq.aw2_says.1] at h
    exact h
  have s1 : w9.cell? ⟨q6, 1, none⟩ = some (.string ⟨#[47, 97, 47, 98, 48, 48, 48, 48, 48, 48, 48, 48, 48, 48]⟩) := by
    have h := M9.out.2.2.1.cb.cell 1
    rw [show (xc x2 (.slice a6 n6 c6))[1]? = some (.string x2.path) from rfl, HX2.out.1, Tq.aw2_says.2.1] at h
    exact h
  have n6' : w9.cell? ⟨q8, 6, none⟩ = some (.int .i64 1) := by
    have h := M9.out.2.2.2.cb.cell 6
    rw [show (k10 n8 (.slice a8 k8 c8))[6]? = some (.int .i64 n8.cnt) from rfl, HC8.out] at h
    exact h
  go_wp2_with fail
  refine (M9.out.1.len HS.out.1).mono ?_
  rintro e wA ⟨FA, rfl, hM, hmv⟩
  have HL : Hid (Below W.heap.size W wA) := hM.below
  have hl2 : (t2.l.length : Int) = 2 := by rw [HX2.out.2, Tq.aw2_says.2.2.2.1]; rfl
  rw [hl2]
  clear hl2 hM hmv r0 r1 r4 s0 s1 n6'
  go_wp2
  go_ret
  exact ⟨rfl, HL.out⟩
end Go.Proofs.YtfcbdjjbchcpjaaGreatDoor
