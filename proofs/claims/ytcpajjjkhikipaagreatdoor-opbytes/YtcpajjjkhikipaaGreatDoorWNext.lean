/- What op.next answers: an Op is read. -/
import Derived.Test.YtcpajjjkhikipaaGreatDoorGetBase
import Derived.Test.YtcpajjjkhikipaaGreatDoorLibW
import Derived.Laws.ResultCell
namespace Go.Proofs.YtcpajjjkhikipaaGreatDoor
open Go.RowKit

/-- An Op is read, as the program reads it. -/
def Oq.rdO2 (ys : List UInt8) (bad : Bool) : O × List UInt8 × Bool :=
  let a := Pk.rC 7 ys bad
  let b := Pk.rT 200 a.2.1 a.2.2
  let c := Pk.rT 1000 b.2.1 b.2.2
  let d := Pk.rI c.2.1 c.2.2
  let e := Pk.rC 3 d.2.1 d.2.2
  (⟨a.1, ⟨b.1.toArray⟩, ⟨c.1.toArray⟩, d.1, e.1⟩, e.2.1, e.2.2)

/-- Five cells are written one after the other. -/
theorem OpV.all5 {w : World} {q : Nat} {o : O} (h : OpV w q o) (K : Int) (p d : ByteArray) (V F : Int) :
    Box5 (((((w.setCell ⟨q, 0, none⟩ (.int .i64 K)).setCell ⟨q, 1, none⟩ (.string p)).setCell ⟨q, 2, none⟩ (.string d)).setCell ⟨q, 3, none⟩ (.int .i64 V)).setCell ⟨q, 4, none⟩ (.int .i64 F)) q ⟨K, p, d, V, F⟩ ∧
    w.grownBy (((((w.setCell ⟨q, 0, none⟩ (.int .i64 K)).setCell ⟨q, 1, none⟩ (.string p)).setCell ⟨q, 2, none⟩ (.string d)).setCell ⟨q, 3, none⟩ (.int .i64 V)).setCell ⟨q, 4, none⟩ (.int .i64 F)) (some q) := by
  obtain ⟨K0, p0, d0, V0, F0⟩ := o
  have h0 : OpV (w.setCell ⟨q, 0, none⟩ (.int .i64 K)) q ⟨K, p0, d0, V0, F0⟩ := by
    refine ⟨⟨?_, ?_, ?_, ?_, ?_⟩, fun i => by simpa using h.free i⟩
    · exact World.cell?_setCell_same _ _ _ h.box.c0
    · rw [World.cell?_setCell_other _ _ _ _ (by simp)]; exact h.box.c1
    · rw [World.cell?_setCell_other _ _ _ _ (by simp)]; exact h.box.c2
    · rw [World.cell?_setCell_other _ _ _ _ (by simp)]; exact h.box.c3
    · rw [World.cell?_setCell_other _ _ _ _ (by simp)]; exact h.box.c4
  refine ⟨((((h0.set1 p).set2 d).set3 V).set4 F).box, ?_⟩
  exact grownBy_trans (grownBy_trans (grownBy_trans (grownBy_trans (grownBy_setCell w ⟨q, 0, none⟩ _) (grownBy_setCell _ ⟨q, 1, none⟩ _)) (grownBy_setCell _ ⟨q, 2, none⟩ _)) (grownBy_setCell _ ⟨q, 3, none⟩ _)) (grownBy_setCell _ ⟨q, 4, none⟩ _)

/-- New blocks alone besides one block: what was there stays. -/
theorem grown_new {w w1 w2 : World} {q r : Nat} (h : w.grownBy w1 (some q)) (k : w1.grownBy w2 (some r)) (hr : w.heap.size ≤ r) : w.grownBy w2 (some q) :=
  ⟨k.os.trans h.os, k.tape.trans h.tape, k.output.trans h.output, Nat.le_trans h.size k.size, fun j hj hne => by
    rw [k.block j (Nat.lt_of_lt_of_le hj h.size) (by simp; omega)]
    exact h.block j hj hne⟩

set_option maxRecDepth 20000 in
set_option maxHeartbeats 4000000 in
theorem next_any (qr : Nat) (ys : List UInt8) (bad : Bool) (w : World) (hR : Pw.Rd w qr ys bad) :
    Calls Tryz.prog 43 #[.pointer (some ⟨qr, 0, none⟩)] w fun e w' => e = .returned (ov (Oq.rdO2 ys bad).1) ∧ Pw.Rd w' qr (Oq.rdO2 ys bad).2.1 (Oq.rdO2 ys bad).2.2 ∧ w.grownBy w' (some qr) := by
  obtain ⟨K0, hK0⟩ : ∃ z, z = (Pk.rC 7 ys bad).1 := ⟨_, rfl⟩
  obtain ⟨yA, hyA⟩ : ∃ z, z = (Pk.rC 7 ys bad).2.1 := ⟨_, rfl⟩
  obtain ⟨bA, hbA⟩ : ∃ z, z = (Pk.rC 7 ys bad).2.2 := ⟨_, rfl⟩
  have HEA : Hid (K0 = (Pk.rC 7 ys bad).1 ∧ yA = (Pk.rC 7 ys bad).2.1 ∧ bA = (Pk.rC 7 ys bad).2.2) := ⟨hK0, hyA, hbA⟩
  clear hK0 hyA hbA
  obtain ⟨P0, hP0⟩ : ∃ z, z = (Pk.rT 200 yA bA).1 := ⟨_, rfl⟩
  obtain ⟨yB, hyB⟩ : ∃ z, z = (Pk.rT 200 yA bA).2.1 := ⟨_, rfl⟩
  obtain ⟨bB, hbB⟩ : ∃ z, z = (Pk.rT 200 yA bA).2.2 := ⟨_, rfl⟩
  have HEB : Hid (P0 = (Pk.rT 200 yA bA).1 ∧ yB = (Pk.rT 200 yA bA).2.1 ∧ bB = (Pk.rT 200 yA bA).2.2) := ⟨hP0, hyB, hbB⟩
  clear hP0 hyB hbB
  obtain ⟨D0, hD0⟩ : ∃ z, z = (Pk.rT 1000 yB bB).1 := ⟨_, rfl⟩
  obtain ⟨yC, hyC⟩ : ∃ z, z = (Pk.rT 1000 yB bB).2.1 := ⟨_, rfl⟩
  obtain ⟨bC, hbC⟩ : ∃ z, z = (Pk.rT 1000 yB bB).2.2 := ⟨_, rfl⟩
  have HEC : Hid (D0 = (Pk.rT 1000 yB bB).1 ∧ yC = (Pk.rT 1000 yB bB).2.1 ∧ bC = (Pk.rT 1000 yB bB).2.2) := ⟨hD0, hyC, hbC⟩
  clear hD0 hyC hbC
  obtain ⟨V0, hV0⟩ : ∃ z, z = (Pk.rI yC bC).1 := ⟨_, rfl⟩
  obtain ⟨yD, hyD⟩ : ∃ z, z = (Pk.rI yC bC).2.1 := ⟨_, rfl⟩
  obtain ⟨bD, hbD⟩ : ∃ z, z = (Pk.rI yC bC).2.2 := ⟨_, rfl⟩
  have HED : Hid (V0 = (Pk.rI yC bC).1 ∧ yD = (Pk.rI yC bC).2.1 ∧ bD = (Pk.rI yC bC).2.2) := ⟨hV0, hyD, hbD⟩
  clear hV0 hyD hbD
  obtain ⟨F0, hF0⟩ : ∃ z, z = (Pk.rC 3 yD bD).1 := ⟨_, rfl⟩
  obtain ⟨yE, hyE⟩ : ∃ z, z = (Pk.rC 3 yD bD).2.1 := ⟨_, rfl⟩
  obtain ⟨bE, hbE⟩ : ∃ z, z = (Pk.rC 3 yD bD).2.2 := ⟨_, rfl⟩
  have HEE : Hid (F0 = (Pk.rC 3 yD bD).1 ∧ yE = (Pk.rC 3 yD bD).2.1 ∧ bE = (Pk.rC 3 yD bD).2.2) := ⟨hF0, hyE, hbE⟩
  clear hF0 hyE hbE
  have HRO : Oq.rdO2 ys bad = (⟨K0, ⟨P0.toArray⟩, ⟨D0.toArray⟩, V0, F0⟩, yE, bE) := by
    unfold Oq.rdO2
    simp only []
    rw [← HEA.out.1, ← HEA.out.2.1, ← HEA.out.2.2, ← HEB.out.1, ← HEB.out.2.1, ← HEB.out.2.2, ← HEC.out.1, ← HEC.out.2.1, ← HEC.out.2.2, ← HED.out.1, ← HED.out.2.1, ← HED.out.2.2, ← HEE.out.1, ← HEE.out.2.1, ← HEE.out.2.2]
  rw [HRO]
  clear HRO
  simp only []
  obtain ⟨PB, hPB⟩ : ∃ z : ByteArray, z = ⟨P0.toArray⟩ := ⟨_, rfl⟩
  obtain ⟨DB, hDB⟩ : ∃ z : ByteArray, z = ⟨D0.toArray⟩ := ⟨_, rfl⟩
  rw [← hPB, ← hDB]
  have HPD : Hid (PB = ⟨P0.toArray⟩ ∧ DB = ⟨D0.toArray⟩) := ⟨hPB, hDB⟩
  clear hPB hDB
  unfold ov
  obtain ⟨qz, hqz⟩ : ∃ q, q = w.heap.size := ⟨_, rfl⟩
  have HQ : Hid (qr < qz ∧ w.heap.size ≤ qz) := ⟨by rw [hqz]; exact hR.lt, by omega⟩
  have HZ : Hid (OpV (w.alloc (.cells #[.int .i64 0, .string ⟨#[]⟩, .string ⟨#[]⟩, .int .i64 0, .int .i64 0] 24)) qz ⟨0, ⟨#[]⟩, ⟨#[]⟩, 0, 0⟩) := by rw [hqz]; exact OpV.made w ⟨0, ⟨#[]⟩, ⟨#[]⟩, 0, 0⟩ _
  have HR : Hid (Pw.Rd (w.alloc (.cells #[.int .i64 0, .string ⟨#[]⟩, .string ⟨#[]⟩, .int .i64 0, .int .i64 0] 24)) qr ys bad) := hR.grown (World.grownBy_alloc _ _ (some qz)) HQ.out.1
  have HG : Hid (w.grownBy (w.alloc (.cells #[.int .i64 0, .string ⟨#[]⟩, .string ⟨#[]⟩, .int .i64 0, .int .i64 0] 24)) (some qr)) := World.grownBy_alloc _ _ (some qr)
  clear hR
  go_enter Tryz.func43, Tryz.ntmps43
  go_wp2_with fail
  rw [← hqz]
  clear hqz
  generalize w.alloc (.cells #[.int .i64 0, .string ⟨#[]⟩, .string ⟨#[]⟩, .int .i64 0, .int .i64 0] 24) = wY at *
  refine (Pw.rCount_any qr 7 ys bad _ HR.out).mono ?_
  rintro e wA ⟨rfl, hr, hg⟩
  rw [← HEA.out.1]
  rw [← HEA.out.2.1, ← HEA.out.2.2] at hr
  have HRA : Hid (Pw.Rd wA qr yA bA) := hr
  have HZA : Hid (OpV wA qz ⟨0, ⟨#[]⟩, ⟨#[]⟩, 0, 0⟩) := HZ.out.grown hg (by have := HQ.out; omega)
  have HGA : Hid (w.grownBy wA (some qr)) := grownBy_trans HG.out hg
  clear hr hg
  go_wp2_with fail
  refine (Pw.rText_any qr 200 yA bA _ HRA.out).mono ?_
  rintro e wB ⟨rfl, hr, hg⟩
  rw [← HEB.out.1, ← HPD.out.1]
  rw [← HEB.out.2.1, ← HEB.out.2.2] at hr
  have HRB : Hid (Pw.Rd wB qr yB bB) := hr
  have HZB : Hid (OpV wB qz ⟨0, ⟨#[]⟩, ⟨#[]⟩, 0, 0⟩) := HZA.out.grown hg (by have := HQ.out; omega)
  have HGB : Hid (w.grownBy wB (some qr)) := grownBy_trans HGA.out hg
  clear hr hg
  go_wp2_with fail
  refine (Pw.rText_any qr 1000 yB bB _ HRB.out).mono ?_
  rintro e wC ⟨rfl, hr, hg⟩
  rw [← HEC.out.1, ← HPD.out.2]
  rw [← HEC.out.2.1, ← HEC.out.2.2] at hr
  have HRC : Hid (Pw.Rd wC qr yC bC) := hr
  have HZC : Hid (OpV wC qz ⟨0, ⟨#[]⟩, ⟨#[]⟩, 0, 0⟩) := HZB.out.grown hg (by have := HQ.out; omega)
  have HGC : Hid (w.grownBy wC (some qr)) := grownBy_trans HGB.out hg
  clear hr hg
  go_wp2_with fail
  refine (Pw.rI64_any qr yC bC _ HRC.out).mono ?_
  rintro e wD ⟨rfl, hr, hg⟩
  rw [← HED.out.1]
  rw [← HED.out.2.1, ← HED.out.2.2] at hr
  have HRD : Hid (Pw.Rd wD qr yD bD) := hr
  have HZD : Hid (OpV wD qz ⟨0, ⟨#[]⟩, ⟨#[]⟩, 0, 0⟩) := HZC.out.grown hg (by have := HQ.out; omega)
  have HGD : Hid (w.grownBy wD (some qr)) := grownBy_trans HGC.out hg
  clear hr hg
  go_wp2_with fail
  refine (Pw.rCount_any qr 3 yD bD _ HRD.out).mono ?_
  rintro e wE ⟨rfl, hr, hg⟩
  rw [← HEE.out.1]
  rw [← HEE.out.2.1, ← HEE.out.2.2] at hr
  have HRE : Hid (Pw.Rd wE qr yE bE) := hr
  have HZE : Hid (OpV wE qz ⟨0, ⟨#[]⟩, ⟨#[]⟩, 0, 0⟩) := HZD.out.grown hg (by have := HQ.out; omega)
  have HGE : Hid (w.grownBy wE (some qr)) := grownBy_trans HGD.out hg
  clear hr hg
  obtain ⟨c0, c1, c2, c3, c4⟩ := HZE.out.box
  have f0 := HZE.out.free 0
  have f1 := HZE.out.free 1
  have f2 := HZE.out.free 2
  have f3 := HZE.out.free 3
  have f4 := HZE.out.free 4
  simp only [] at c0 c1 c2 c3 c4
  go_wp2
  clear c0 c1 c2 c3 c4 f0 f1 f2 f3 f4
  have htold := HZE.out.all5 K0 PB DB V0 F0
  generalize ((((wE.setCell ⟨qz, 0, none⟩ (.int .i64 K0)).setCell ⟨qz, 1, none⟩ (.string PB)).setCell ⟨qz, 2, none⟩ (.string DB)).setCell ⟨qz, 3, none⟩ (.int .i64 V0)).setCell ⟨qz, 4, none⟩ (.int .i64 F0) = wz at *
  obtain ⟨⟨z0, z1, z2, z3, z4⟩, hg⟩ := htold
  simp only [] at z0 z1 z2 z3 z4
  have HEND : Hid (Pw.Rd wz qr yE bE ∧ w.grownBy wz (some qr)) := ⟨HRE.out.grown hg HQ.out.1, grown_new HGE.out hg HQ.out.2⟩
  clear hg
  (try simp only [Exit.inBlock, Exit.then])
  refine bodyPost_ret (v := .agg #[.int .i64 K0, .string PB, .string DB, .int .i64 V0, .int .i64 F0]) ?_ rfl ⟨rfl, HEND.out.1, HEND.out.2⟩
  simp [results, Tryz.results43, go_sem, z0, z1, z2, z3, z4]
end Go.Proofs.YtcpajjjkhikipaaGreatDoor
