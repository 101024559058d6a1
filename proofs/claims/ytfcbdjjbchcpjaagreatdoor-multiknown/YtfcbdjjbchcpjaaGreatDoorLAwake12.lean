/- What the statements' own made and awake answer. -/
import Derived.Test.YtfcbdjjbchcpjaaGreatDoorMine12
namespace Go.Proofs.YtfcbdjjbchcpjaaGreatDoor.Tq
def am1 : (Rp × Bool) × Tr := many ⟨10, []⟩ 1 1 [mk pA 0, mk pA 0]
def am2 : (Rp × Bool) × Tr := many am1.2 1 2 [mk pA 0, mk pAB 0]
theorem am1_says : am1.1.2 = false ∧ am1.1.1.err = 5 ∧ am1.1.1.at_ = 1 ∧ am1.1.1.xs.length = 2 ∧ am1.1.1.xs[0]?.map (·.err) = some 14 ∧ am1.2 = ⟨10, []⟩ := ⟨by kernel_rfl, by kernel_rfl, by kernel_rfl, by kernel_rfl, by kernel_rfl, by kernel_rfl⟩
theorem am2_says : am2.1.2 = true ∧ am2.1.1.err = 0 ∧ am2.1.1.at_ = -1 ∧ am2.1.1.xs.length = 2 ∧ am2.1.1.zxid = 2 ∧ am2.2.l.length = 2 := ⟨by kernel_rfl, by kernel_rfl, by kernel_rfl, by kernel_rfl, by kernel_rfl, by kernel_rfl⟩
end Go.Proofs.YtfcbdjjbchcpjaaGreatDoor.Tq
namespace Go.Proofs.YtfcbdjjbchcpjaaGreatDoor
open Go.RowKit

set_option maxRecDepth 20000 in
set_option maxHeartbeats 1000000 in
theorem made_any12 (p : ByteArray) (f : Int) (w : World) :
    Calls Tryz.prog 43 #[.string p, .int .i64 f] w fun e w' => e = .returned (ov (Tq.mk p f)) ∧ Below w.heap.size w w' := by
  go_enter Tryz.func43, Tryz.ntmps43
  go_wp2
  refine bodyPost_ret (v := .agg #[.int .i64 1, .string p, .string ⟨#[]⟩, .int .i64 0, .int .i64 f]) ?_ rfl ⟨rfl, (Below.refl _ w).alloc (Nat.le_refl _) _⟩
  rw [results_one10 rfl]
  go_simp

theorem fit_mks {p p' : ByteArray} (hp : p.size ≤ maxLen) (hp' : p'.size ≤ maxLen) : ∀ o ∈ [Tq.mk p 0, Tq.mk p' 0], OFit o := by
  intro o ho
  simp only [List.mem_cons, List.not_mem_nil, or_false] at ho
  rcases ho with rfl | rfl
  · exact fit_mk hp (by decide)
  · exact fit_mk hp' (by decide)

set_option maxRecDepth 20000 in
set_option maxHeartbeats 4000000 in
theorem awake_any12 {LT : Rep11} (S : Specs11 LT) (D : SpecD12 LT) (W : World) (hS : Pa.Std W) :
    Calls Tryz.prog 40 #[] W fun e w' => e = .returned (.bool true) ∧ Below W.heap.size W w' := by
  have HS : Hid (Specs11 LT ∧ SpecD12 LT ∧ Pa.Std W) := ⟨S, D, hS⟩
  clear S D hS
  go_enter Tryz.func40, Tryz.ntmps40
  go_wp2_with fail
  refine (Mine11.made HS.out.1 10 (by decide) (Below.refl _ W)).mono ?_
  rintro e w1 ⟨q, F1, rfl, hM, hb⟩
  have M1 : Hid (Mine11 LT W w1 q ⟨10, []⟩ F1) := hM
  clear hM hb
  go_wp2_with fail
  refine (made_any12 Tq.pA 0 w1).mono ?_
  rintro e w2 ⟨rfl, hb⟩
  have M2 : Hid (Mine11 LT W w2 q ⟨10, []⟩ F1) := M1.out.later HS.out.1 hb
  clear hb M1
  unfold ov Tq.mk
  simp only []
  go_wp2_with fail
  refine (made_any12 Tq.pA 0 w2).mono ?_
  rintro e w3 ⟨rfl, hb⟩
  have M3 : Hid (Mine11 LT W w3 q ⟨10, []⟩ F1) := M2.out.later HS.out.1 hb
  clear hb M2
  unfold ov Tq.mk
  simp only []
  obtain ⟨g4, hg4⟩ : ∃ z, z = w3.heap.size := ⟨_, rfl⟩
  have M4 : Hid (Mine11 LT W (w3.alloc (.cells #[.int .i64 1, .string Tq.pA, .string ⟨#[]⟩, .int .i64 0, .int .i64 0, .int .i64 1, .string Tq.pA, .string ⟨#[]⟩, .int .i64 0, .int .i64 0] 34)) q ⟨10, []⟩ F1 ∧ Om12 (w3.alloc (.cells #[.int .i64 1, .string Tq.pA, .string ⟨#[]⟩, .int .i64 0, .int .i64 0, .int .i64 1, .string Tq.pA, .string ⟨#[]⟩, .int .i64 0, .int .i64 0] 34)) F1 (.slice (some ⟨g4, 0, none⟩) 2 2) [Tq.mk Tq.pA 0, Tq.mk Tq.pA 0]) := ⟨M3.out.later HS.out.1 ((Below.refl _ w3).alloc (Nat.le_refl _) _), by rw [hg4]; exact Om12.made w3 F1 (M3.out.flt HS.out.1) [Tq.mk Tq.pA 0, Tq.mk Tq.pA 0]⟩
  go_wp2_with fail
  rw [← hg4]
  clear hg4 M3
  generalize (w3.alloc (.cells #[.int .i64 1, .string Tq.pA, .string ⟨#[]⟩, .int .i64 0, .int .i64 0, .int .i64 1, .string Tq.pA, .string ⟨#[]⟩, .int .i64 0, .int .i64 0] 34)) = w4 at *
  obtain ⟨r5, hr5⟩ : ∃ x, x = Tq.am1.1.1 := ⟨_, rfl⟩
  have HR5 : Hid (r5 = Tq.am1.1.1) := hr5
  refine (M4.out.1.many HS.out.1 HS.out.2.1 HS.out.2.2 1 1 _ _ 0 (Tq.few_new 10) (by decide) M4.out.2 (fit_mks (by unfold maxLen; decide) (by unfold maxLen; decide)) (by decide) r5 false ⟨10, []⟩ (by rw [hr5]; exact Prod.ext (Prod.ext rfl Tq.am1_says.1) Tq.am1_says.2.2.2.2.2)).mono ?_
  clear hr5
  rintro e w5 ⟨F5, u5, rfl, hR, hM, hmv⟩
  obtain ⟨a5, c5, rfl⟩ := hR.form
  have hl5 : r5.xs.length = 2 := by rw [HR5.out]; exact Tq.am1_says.2.2.2.1
  rw [hl5] at hR ⊢
  clear hl5
  obtain ⟨q6, hq6⟩ : ∃ z, z = w5.heap.size := ⟨_, rfl⟩
  have M6 : Hid (Mine11 LT W (w5.alloc (.cells #[.int .i64 r5.num, .int .i64 r5.zxid, .int .i64 r5.err, .int .i64 r5.at_, .slice a5 2 c5] 73)) q ⟨10, []⟩ F5 ∧ Rb12 (w5.alloc (.cells #[.int .i64 r5.num, .int .i64 r5.zxid, .int .i64 r5.err, .int .i64 r5.at_, .slice a5 2 c5] 73)) F5 w4.heap.size q6 r5 (.slice a5 2 c5)) := ⟨hM.later HS.out.1 ((Below.refl _ w5).alloc (Nat.le_refl _) _), by rw [hq6]; exact Rb12.made (hM.flt HS.out.1) hR⟩
  clear hR hM hmv M4
  unfold rpv
  go_wp2_with fail
  rw [← hq6]
  clear hq6
  generalize (w5.alloc (.cells #[.int .i64 r5.num, .int .i64 r5.zxid, .int .i64 r5.err, .int .i64 r5.at_, .slice a5 2 c5] 73)) = w6 at *
  refine (made_any12 Tq.pA 0 w6).mono ?_
  rintro e w7 ⟨rfl, hb⟩
  have M7 : Hid (Mine11 LT W w7 q ⟨10, []⟩ F5 ∧ Rb12 w7 F5 w4.heap.size q6 r5 (.slice a5 2 c5)) := ⟨M6.out.1.later HS.out.1 hb, M6.out.2.later hb⟩
  clear hb M6
  unfold ov Tq.mk
  simp only []
  go_wp2_with fail
  refine (made_any12 Tq.pAB 0 w7).mono ?_
  rintro e w8 ⟨rfl, hb⟩
  have M8 : Hid (Mine11 LT W w8 q ⟨10, []⟩ F5 ∧ Rb12 w8 F5 w4.heap.size q6 r5 (.slice a5 2 c5)) := ⟨M7.out.1.later HS.out.1 hb, M7.out.2.later hb⟩
  clear hb M7
  unfold ov Tq.mk
  simp only []
  obtain ⟨g9, hg9⟩ : ∃ z, z = w8.heap.size := ⟨_, rfl⟩
  have M9 : Hid (Mine11 LT W (w8.alloc (.cells #[.int .i64 1, .string Tq.pA, .string ⟨#[]⟩, .int .i64 0, .int .i64 0, .int .i64 1, .string Tq.pAB, .string ⟨#[]⟩, .int .i64 0, .int .i64 0] 34)) q ⟨10, []⟩ F5 ∧ Rb12 (w8.alloc (.cells #[.int .i64 1, .string Tq.pA, .string ⟨#[]⟩, .int .i64 0, .int .i64 0, .int .i64 1, .string Tq.pAB, .string ⟨#[]⟩, .int .i64 0, .int .i64 0] 34)) F5 w4.heap.size q6 r5 (.slice a5 2 c5) ∧ Om12 (w8.alloc (.cells #[.int .i64 1, .string Tq.pA, .string ⟨#[]⟩, .int .i64 0, .int .i64 0, .int .i64 1, .string Tq.pAB, .string ⟨#[]⟩, .int .i64 0, .int .i64 0] 34)) F5 (.slice (some ⟨g9, 0, none⟩) 2 2) [Tq.mk Tq.pA 0, Tq.mk Tq.pAB 0]) := ⟨M8.out.1.later HS.out.1 ((Below.refl _ w8).alloc (Nat.le_refl _) _), M8.out.2.later ((Below.refl _ w8).alloc (Nat.le_refl _) _), by rw [hg9]; exact Om12.made w8 F5 (M8.out.1.flt HS.out.1) [Tq.mk Tq.pA 0, Tq.mk Tq.pAB 0]⟩
  go_wp2_with fail
  rw [← hg9]
  clear hg9 M8
  generalize (w8.alloc (.cells #[.int .i64 1, .string Tq.pA, .string ⟨#[]⟩, .int .i64 0, .int .i64 0, .int .i64 1, .string Tq.pAB, .string ⟨#[]⟩, .int .i64 0, .int .i64 0] 34)) = w9 at *
  obtain ⟨ra, hra⟩ : ∃ x, x = Tq.am2.1.1 := ⟨_, rfl⟩
  obtain ⟨ta, hta⟩ : ∃ x, x = Tq.am2.2 := ⟨_, rfl⟩
  have HRA : Hid (ra = Tq.am2.1.1 ∧ ta = Tq.am2.2) := ⟨hra, hta⟩
  refine (M9.out.1.many HS.out.1 HS.out.2.1 HS.out.2.2 1 2 _ _ 0 (Tq.few_new 10) (by decide) M9.out.2.2 (fit_mks (by unfold maxLen; decide) (by unfold maxLen; decide)) (by decide) ra true ta (by rw [hra, hta]; have e : Tq.am2 = Tq.many ⟨10, []⟩ 1 2 [Tq.mk Tq.pA 0, Tq.mk Tq.pAB 0] := (by unfold Tq.am2; rw [Tq.am1_says.2.2.2.2.2]); rw [← e]; exact Prod.ext (Prod.ext rfl Tq.am2_says.1) rfl)).mono ?_
  clear hra hta
  rintro e wa ⟨Fa, ua, rfl, hR, hM, hmv⟩
  obtain ⟨aa, ca, rfl⟩ := hR.form
  have hla : ra.xs.length = 2 := by rw [HRA.out.1]; exact Tq.am2_says.2.2.2.1
  rw [hla] at hR ⊢
  clear hla
  obtain ⟨qb, hqb⟩ : ∃ z, z = wa.heap.size := ⟨_, rfl⟩
  have MB : Hid (Mine11 LT W (wa.alloc (.cells #[.int .i64 ra.num, .int .i64 ra.zxid, .int .i64 ra.err, .int .i64 ra.at_, .slice aa 2 ca] 73)) q ta Fa ∧ Rb12 (wa.alloc (.cells #[.int .i64 ra.num, .int .i64 ra.zxid, .int .i64 ra.err, .int .i64 ra.at_, .slice aa 2 ca] 73)) Fa w4.heap.size q6 r5 (.slice a5 2 c5) ∧ Rb12 (wa.alloc (.cells #[.int .i64 ra.num, .int .i64 ra.zxid, .int .i64 ra.err, .int .i64 ra.at_, .slice aa 2 ca] 73)) Fa w9.heap.size qb ra (.slice aa 2 ca)) := ⟨hM.later HS.out.1 ((Below.refl _ wa).alloc (Nat.le_refl _) _), (M9.out.2.1.moved hmv).later ((Below.refl _ wa).alloc (Nat.le_refl _) _), by rw [hqb]; exact Rb12.made (hM.flt HS.out.1) hR⟩
  clear hR hM hmv M9
  unfold rpv
  go_upto_region 4 with fail
  rw [← hqb]
  clear hqb
  generalize (wa.alloc (.cells #[.int .i64 ra.num, .int .i64 ra.zxid, .int .i64 ra.err, .int .i64 ra.at_, .slice aa 2 ca] 73)) = wb at *
  obtain ⟨x0, hx0, hx1⟩ : ∃ x, r5.xs[0]? = some x ∧ x.err = 14 := by
    have h := Tq.am1_says.2.2.2.2.1
    rw [← HR5.out] at h
    cases hf : r5.xs[0]? with
    | none => rw [hf] at h; cases h
    | some n => rw [hf] at h; exact ⟨n, rfl, Option.some.inj h⟩
  obtain ⟨g0, b0, ha5, l0⟩ := MB.out.2.1.res.first hx0
  rw [hx1] at l0
  subst ha5
  clear hx0 hx1
  have p2 : wb.cell? ⟨q6, 2, none⟩ = some (.int .i64 5) := by
    have h := MB.out.2.1.blk.cb.cell 2
    rw [HR5.out, show ([.int .i64 Tq.am1.1.1.num, .int .i64 Tq.am1.1.1.zxid, .int .i64 Tq.am1.1.1.err, .int .i64 Tq.am1.1.1.at_, .slice (some ⟨g0, b0, none⟩) 2 c5] : List Value)[2]? = some (.int .i64 Tq.am1.1.1.err) from rfl, Tq.am1_says.2.1] at h
    exact h
  have p3 : wb.cell? ⟨q6, 3, none⟩ = some (.int .i64 1) := by
    have h := MB.out.2.1.blk.cb.cell 3
    rw [HR5.out, show ([.int .i64 Tq.am1.1.1.num, .int .i64 Tq.am1.1.1.zxid, .int .i64 Tq.am1.1.1.err, .int .i64 Tq.am1.1.1.at_, .slice (some ⟨g0, b0, none⟩) 2 c5] : List Value)[3]? = some (.int .i64 Tq.am1.1.1.at_) from rfl, Tq.am1_says.2.2.1] at h
    exact h
  have p4 : wb.cell? ⟨q6, 4, none⟩ = some (.slice (some ⟨g0, b0, none⟩) 2 c5) := (MB.out.2.1.blk.cb.cell 4).trans rfl
  have s1 : wb.cell? ⟨qb, 1, none⟩ = some (.int .i64 2) := by
    have h := MB.out.2.2.blk.cb.cell 1
    rw [HRA.out.1, show ([.int .i64 Tq.am2.1.1.num, .int .i64 Tq.am2.1.1.zxid, .int .i64 Tq.am2.1.1.err, .int .i64 Tq.am2.1.1.at_, .slice aa 2 ca] : List Value)[1]? = some (.int .i64 Tq.am2.1.1.zxid) from rfl, Tq.am2_says.2.2.2.2.1] at h
    exact h
  have s2 : wb.cell? ⟨qb, 2, none⟩ = some (.int .i64 0) := by
    have h := MB.out.2.2.blk.cb.cell 2
    rw [HRA.out.1, show ([.int .i64 Tq.am2.1.1.num, .int .i64 Tq.am2.1.1.zxid, .int .i64 Tq.am2.1.1.err, .int .i64 Tq.am2.1.1.at_, .slice aa 2 ca] : List Value)[2]? = some (.int .i64 Tq.am2.1.1.err) from rfl, Tq.am2_says.2.1] at h
    exact h
  have s3 : wb.cell? ⟨qb, 3, none⟩ = some (.int .i64 (-1)) := by
    have h := MB.out.2.2.blk.cb.cell 3
    rw [HRA.out.1, show ([.int .i64 Tq.am2.1.1.num, .int .i64 Tq.am2.1.1.zxid, .int .i64 Tq.am2.1.1.err, .int .i64 Tq.am2.1.1.at_, .slice aa 2 ca] : List Value)[3]? = some (.int .i64 Tq.am2.1.1.at_) from rfl, Tq.am2_says.2.2.1] at h
    exact h
  have s4 : wb.cell? ⟨qb, 4, none⟩ = some (.slice aa 2 ca) := (MB.out.2.2.blk.cb.cell 4).trans rfl
  go_wp2_with fail
  refine (MB.out.1.len HS.out.1).mono ?_
  rintro e wc ⟨Fc, rfl, hM, hmv⟩
  have HL : Hid (Below W.heap.size W wc) := hM.below
  have hl2 : (ta.l.length : Int) = 2 := by rw [HRA.out.2, Tq.am2_says.2.2.2.2.2]; rfl
  rw [hl2]
  clear hl2 hM hmv p2 p3 p4 s1 s2 s3 s4 l0
  go_wp2
  go_ret
  exact ⟨rfl, HL.out⟩
end Go.Proofs.YtfcbdjjbchcpjaaGreatDoor
