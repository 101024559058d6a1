/- What the reference's Get answers. -/
import Derived.Test.YtcpajjjkhikipaaGreatDoorGetSteps
import Derived.Test.YtcpajjjkhikipaaGreatDoorRSameQ
import Derived.Laws.ResultCell
namespace Go.Proofs.YtcpajjjkhikipaaGreatDoor
open Go.RowKit

/-- A request that was boxed, and bytes of which a text is made. -/
def S4 (q : Nat) (s n : Int) (u v : Value) (Z : ByteArray) (w : World) : Prop :=
  (w.cell? ⟨q, 0, none⟩ = some (.int .i64 s) ∧ w.cell? ⟨q, 1, none⟩ = some (.int .i64 n) ∧ w.cell? ⟨q, 2, none⟩ = some u) ∧ (convert 27 9 v).run Tryz.prog w = .ok (.string Z) w
theorem S4.of {q : Nat} {s n : Int} {u v : Value} {b : List UInt8} {Z : ByteArray} {w : World} (h : Box3 w q s n u) (hb : Bs w v b) (hZ : Z = ⟨b.toArray⟩) : S4 q s n u v Z w := ⟨⟨h.c0, h.c1, h.c2⟩, by rw [hZ]; exact hb.conv⟩

set_option maxRecDepth 20000 in
set_option maxHeartbeats 4000000 in
theorem refGet_any (v : Value) (b : List UInt8) (w : World) (hb : Bs w v b) (hN : b.length ≤ 50000) :
    Calls Tryz.prog 22 #[v] w fun e w' => Below w.heap.size w w' ∧ ((∃ s n u os, e = .returned (.tuple #[.agg #[.int .i64 s, .int .i64 n, u], .bool true]) ∧ Ol w' u os ∧ Is b s n os) ∨ (e = .returned (.tuple #[.agg #[.int .i64 0, .int .i64 0, .slice none 0 0], .bool false]) ∧ ∀ s n os, ¬ Is b s n os)) := by
  have HV : Hid (Bs w v b ∧ b.length ≤ 50000) := ⟨hb, hN⟩
  obtain ⟨av, nv, cv, rfl, hnv, _⟩ := hb
  have HNV : Hid (nv = b.length) := hnv
  clear hnv hN
  obtain ⟨q0, hq0⟩ : ∃ q, q = w.heap.size := ⟨_, rfl⟩
  obtain ⟨qr, hqr⟩ : ∃ q, q = w.heap.size + 1 := ⟨_, rfl⟩
  have hal0 : Below w.heap.size w (w.alloc (.cells #[.int .i64 0, .int .i64 0, .slice none 0 0] 39)) := (Below.refl _ w).alloc (Nat.le_refl _) _
  have HA0 : Hid (ReqV ((w.alloc (.cells #[.int .i64 0, .int .i64 0, .slice none 0 0] 39)).alloc (.cells #[.slice av nv cv, .int .i64 0, .bool false] 71)) q0 0 0 (.slice none 0 0)) := by
    rw [hq0]
    exact (ReqV.made w 0 0 _ _).grown (World.grownBy_alloc _ _ (some (w.heap.size + 1))) (by omega)
  have HR0 : Hid (Pw.Rf ((w.alloc (.cells #[.int .i64 0, .int .i64 0, .slice none 0 0] 39)).alloc (.cells #[.slice av nv cv, .int .i64 0, .bool false] 71)) qr (.slice av nv cv) b b false) := by
    have h := Rf.start (HV.out.1.below hal0) (by have := HV.out.2; omega) 71
    rw [World.size_alloc] at h
    rw [hqr]
    exact h
  have HB0 : Hid (Below w.heap.size w ((w.alloc (.cells #[.int .i64 0, .int .i64 0, .slice none 0 0] 39)).alloc (.cells #[.slice av nv cv, .int .i64 0, .bool false] 71))) := hal0.alloc (by simp) _
  clear hal0
  go_enter Tryz.func22, Tryz.ntmps22
  go_wp2_with fail
  rw [← hqr, ← hq0]
  have HQ : Hid (q0 = w.heap.size ∧ qr = w.heap.size + 1) := ⟨hq0, hqr⟩
  clear hq0 hqr
  generalize (w.alloc (.cells #[.int .i64 0, .int .i64 0, .slice none 0 0] 39)).alloc (.cells #[.slice av nv cv, .int .i64 0, .bool false] 71) = w1 at *
  obtain ⟨s, hs⟩ : ∃ s, s = (Pk.rI b false).1 := ⟨_, rfl⟩
  obtain ⟨y2, hy2⟩ : ∃ y, y = (Pk.rI b false).2.1 := ⟨_, rfl⟩
  obtain ⟨b2, hb2⟩ : ∃ y, y = (Pk.rI b false).2.2 := ⟨_, rfl⟩
  obtain ⟨n, hn⟩ : ∃ s, s = (Pk.rI y2 b2).1 := ⟨_, rfl⟩
  obtain ⟨y3, hy3⟩ : ∃ y, y = (Pk.rI y2 b2).2.1 := ⟨_, rfl⟩
  obtain ⟨b3, hb3⟩ : ∃ y, y = (Pk.rI y2 b2).2.2 := ⟨_, rfl⟩
  obtain ⟨c, hc⟩ : ∃ c : Nat, (c : Int) = (Pk.rC 16 y3 b3).1 ∧ c ≤ 16 := ⟨(Pk.rC 16 y3 b3).1.toNat, by have := rC_most y3 b3; omega, by have := rC_most y3 b3; omega⟩
  obtain ⟨y4, hy4⟩ : ∃ y, y = (Pk.rC 16 y3 b3).2.1 := ⟨_, rfl⟩
  obtain ⟨b4, hb4⟩ : ∃ y, y = (Pk.rC 16 y3 b3).2.2 := ⟨_, rfl⟩
  have HEQ : Hid ((s = (Pk.rI b false).1 ∧ y2 = (Pk.rI b false).2.1 ∧ b2 = (Pk.rI b false).2.2) ∧ (n = (Pk.rI y2 b2).1 ∧ y3 = (Pk.rI y2 b2).2.1 ∧ b3 = (Pk.rI y2 b2).2.2) ∧ ((c : Int) = (Pk.rC 16 y3 b3).1 ∧ y4 = (Pk.rC 16 y3 b3).2.1 ∧ b4 = (Pk.rC 16 y3 b3).2.2)) := ⟨⟨hs, hy2, hb2⟩, ⟨hn, hy3, hb3⟩, ⟨hc.1, hy4, hb4⟩⟩
  have hc16 : c ≤ 16 := hc.2
  clear hs hy2 hb2 hn hy3 hb3 hc hy4 hb4
  refine (Pw.fI64_any qr _ b b false _ HR0.out).mono ?_
  rintro e w2 ⟨rfl, hr, hg⟩
  rw [← HEQ.out.1.1]
  rw [← HEQ.out.1.2.1, ← HEQ.out.1.2.2] at hr
  have HR2 : Hid (Pw.Rf w2 qr (.slice av nv cv) b y2 b2) := hr
  have HA2 : Hid (ReqV w2 q0 0 0 (.slice none 0 0)) := HA0.out.grown hg (by have := HQ.out; omega)
  have HB2 : Hid (Below w.heap.size w w2) := Below.reader HB0.out hg (Nat.le_refl _) (by have := HQ.out; omega)
  clear hr hg
  go_wp2_with fail
  refine (Pw.fI64_any qr _ b y2 b2 _ HR2.out).mono ?_
  rintro e w3 ⟨rfl, hr, hg⟩
  rw [← HEQ.out.2.1.1]
  rw [← HEQ.out.2.1.2.1, ← HEQ.out.2.1.2.2] at hr
  have HR3 : Hid (Pw.Rf w3 qr (.slice av nv cv) b y3 b3) := hr
  have HA3 : Hid (ReqV w3 q0 0 0 (.slice none 0 0)) := HA2.out.grown hg (by have := HQ.out; omega)
  have HB3 : Hid (Below w.heap.size w w3) := Below.reader HB2.out hg (Nat.le_refl _) (by have := HQ.out; omega)
  clear hr hg
  obtain ⟨qq, hqq⟩ : ∃ q, q = w3.heap.size := ⟨_, rfl⟩
  have HLT : Hid (qr < qq ∧ q0 < qq ∧ w.heap.size ≤ qq) := by
    have h1 := World.block_lt_of_cell? w3 _ HR3.out.c0
    have h2 := HA3.out.lt
    have h3 := HB3.out.size
    simp only [] at h1
    exact ⟨by omega, by omega, by omega⟩
  have HG4 : Hid (GetS w (w3.alloc (.cells #[.int .i64 s, .int .i64 n, .slice none 0 0] 39)) q0 qr qq (.slice av nv cv) b y3 b3 s n (.slice none 0 0) []) := by
    have hg : w3.grownBy (w3.alloc (.cells #[.int .i64 s, .int .i64 n, .slice none 0 0] 39)) (some qq) := World.grownBy_alloc _ _ _
    have hl := HLT.out
    refine ⟨HR3.out.grown hg (by omega) (fun h e => by have := own_lt HV.out.1 h qq e; omega), by rw [hqq]; exact ReqV.made w3 s n _ _, HA3.out.grown hg (by omega), World.ownsRow_nil _ _ _ _, by simp [Value.ownBlock], by simp [Value.ownBlock], by simp [Value.ownBlock], by have := HQ.out; omega, hl.2.2, by have := HQ.out; omega, by omega, by have := HQ.out; omega, by omega, fun h r e => own_lt HV.out.1 h r e, Below.reader HB3.out hg (Nat.le_refl _) hl.2.2⟩
  go_wp2_with fail
  rw [← hqq]
  clear hqq
  generalize w3.alloc (.cells #[.int .i64 s, .int .i64 n, .slice none 0 0] 39) = w4 at *
  refine (Pw.fCount_any qr 16 _ b y3 b3 _ HG4.out.rf).mono ?_
  rintro e w5 ⟨rfl, hr, hg⟩
  rw [← HEQ.out.2.2.1]
  rw [← HEQ.out.2.2.2.1, ← HEQ.out.2.2.2.2] at hr
  have HG5 : Hid (GetS w w5 q0 qr qq (.slice av nv cv) b y4 b4 s n (.slice none 0 0) []) := HG4.out.read hr hg
  clear hr hg
  go_wp2
  go_loopw [7] (fun i wr => ∃ (k : Nat) (ys : List UInt8) (bad : Bool) (u : Value) (os : List O), k ≤ c ∧ i = .int .i64 (k : Int) ∧ os.length = k ∧ GetS w wr q0 qr qq (.slice av nv cv) b ys bad s n u os ∧ Oq.rdL c y4 b4 = (os ++ (Oq.rdL (c - k) ys bad).1, (Oq.rdL (c - k) ys bad).2)) (fun i _ => ((c : Int) - intOf i).toNat)
  case atStart => exact ⟨0, y4, b4, .slice none 0 0, [], Nat.zero_le _, rfl, rfl, HG5.out, by simp⟩
  case round =>
    obtain ⟨k, ys, bad, u, os, hk, rfl, hol, hgs, hrd⟩ := hrel
    have HGS : Hid (GetS w wr q0 qr qq (.slice av nv cv) b ys bad s n u os) := hgs
    have HRD : Hid (os.length = k ∧ Oq.rdL c y4 b4 = (os ++ (Oq.rdL (c - k) ys bad).1, (Oq.rdL (c - k) ys bad).2)) := ⟨hol, hrd⟩
    clear hgs hol hrd
    have hb2c := HGS.out.rf.c2
    by_cases hgo : k < c ∧ bad = false
    · obtain ⟨hlt, hbad⟩ := hgo
      have hlt' : (k : Int) < (c : Int) := by omega
      subst hbad
      obtain ⟨K0, hK0⟩ : ∃ z, z = (Pk.rI ys false).1 := ⟨_, rfl⟩
      obtain ⟨yA, hyA⟩ : ∃ z, z = (Pk.rI ys false).2.1 := ⟨_, rfl⟩
      obtain ⟨bA, hbA⟩ : ∃ z, z = (Pk.rI ys false).2.2 := ⟨_, rfl⟩
      have HEK0 : Hid (K0 = (Pk.rI ys false).1 ∧ yA = (Pk.rI ys false).2.1 ∧ bA = (Pk.rI ys false).2.2) := ⟨hK0, hyA, hbA⟩
      clear hK0 hyA hbA
      obtain ⟨P0, hP0⟩ : ∃ z, z = (Pk.rT 200 yA bA).1 := ⟨_, rfl⟩
      obtain ⟨yB, hyB⟩ : ∃ z, z = (Pk.rT 200 yA bA).2.1 := ⟨_, rfl⟩
      obtain ⟨bB, hbB⟩ : ∃ z, z = (Pk.rT 200 yA bA).2.2 := ⟨_, rfl⟩
      have HEP0 : Hid (P0 = (Pk.rT 200 yA bA).1 ∧ yB = (Pk.rT 200 yA bA).2.1 ∧ bB = (Pk.rT 200 yA bA).2.2) := ⟨hP0, hyB, hbB⟩
      clear hP0 hyB hbB
      obtain ⟨D0, hD0⟩ : ∃ z, z = (Pk.rT 1000 yB bB).1 := ⟨_, rfl⟩
      obtain ⟨yC, hyC⟩ : ∃ z, z = (Pk.rT 1000 yB bB).2.1 := ⟨_, rfl⟩
      obtain ⟨bC, hbC⟩ : ∃ z, z = (Pk.rT 1000 yB bB).2.2 := ⟨_, rfl⟩
      have HED0 : Hid (D0 = (Pk.rT 1000 yB bB).1 ∧ yC = (Pk.rT 1000 yB bB).2.1 ∧ bC = (Pk.rT 1000 yB bB).2.2) := ⟨hD0, hyC, hbC⟩
      clear hD0 hyC hbC
      obtain ⟨V0, hV0⟩ : ∃ z, z = (Pk.rI yC bC).1 := ⟨_, rfl⟩
      obtain ⟨yD, hyD⟩ : ∃ z, z = (Pk.rI yC bC).2.1 := ⟨_, rfl⟩
      obtain ⟨bD, hbD⟩ : ∃ z, z = (Pk.rI yC bC).2.2 := ⟨_, rfl⟩
      have HEV0 : Hid (V0 = (Pk.rI yC bC).1 ∧ yD = (Pk.rI yC bC).2.1 ∧ bD = (Pk.rI yC bC).2.2) := ⟨hV0, hyD, hbD⟩
      clear hV0 hyD hbD
      obtain ⟨F0, hF0⟩ : ∃ z, z = (Pk.rI yD bD).1 := ⟨_, rfl⟩
      obtain ⟨yE, hyE⟩ : ∃ z, z = (Pk.rI yD bD).2.1 := ⟨_, rfl⟩
      obtain ⟨bE, hbE⟩ : ∃ z, z = (Pk.rI yD bD).2.2 := ⟨_, rfl⟩
      have HEF0 : Hid (F0 = (Pk.rI yD bD).1 ∧ yE = (Pk.rI yD bD).2.1 ∧ bE = (Pk.rI yD bD).2.2) := ⟨hF0, hyE, hbE⟩
      clear hF0 hyE hbE
      have HRO : Hid (Oq.rdO ys false = (⟨K0, ⟨P0.toArray⟩, ⟨D0.toArray⟩, V0, F0⟩, yE, bE)) := by
        have h : Oq.rdO ys false = (⟨K0, ⟨P0.toArray⟩, ⟨D0.toArray⟩, V0, F0⟩, yE, bE) := by
          unfold Oq.rdO
          simp only []
          rw [← HEK0.out.1, ← HEK0.out.2.1, ← HEK0.out.2.2, ← HEP0.out.1, ← HEP0.out.2.1, ← HEP0.out.2.2, ← HED0.out.1, ← HED0.out.2.1, ← HED0.out.2.2, ← HEV0.out.1, ← HEV0.out.2.1, ← HEV0.out.2.2, ← HEF0.out.1, ← HEF0.out.2.1, ← HEF0.out.2.2]
        exact h
      obtain ⟨PB, hPB⟩ : ∃ z : ByteArray, z = ⟨P0.toArray⟩ := ⟨_, rfl⟩
      obtain ⟨DB, hDB⟩ : ∃ z : ByteArray, z = ⟨D0.toArray⟩ := ⟨_, rfl⟩
      rw [← hPB, ← hDB] at HRO
      have HPD : Hid (PB = ⟨P0.toArray⟩ ∧ DB = ⟨D0.toArray⟩) := ⟨hPB, hDB⟩
      clear hPB hDB
      go_wp2_with fail
      refine (Pw.fI64_any qr _ b ys false _ HGS.out.rf).mono ?_
      rintro e wA ⟨rfl, hr, hg⟩
      rw [← HEK0.out.1]
      rw [← HEK0.out.2.1, ← HEK0.out.2.2] at hr
      have HGA : Hid (GetS w wA q0 qr qq (.slice av nv cv) b yA bA s n u os) := HGS.out.read hr hg
      clear hr hg hb2c
      obtain ⟨q8, hq8⟩ : ∃ q, q = wA.heap.size := ⟨_, rfl⟩
      have H8 : Hid (w.heap.size ≤ q8 ∧ q8 ≠ qr ∧ q8 ≠ qq ∧ q8 ≠ q0 ∧ u.ownBlock ≠ some q8) := by
        have l1 := World.block_lt_of_cell? wA _ HGA.out.rf.c0
        have l2 := HGA.out.req.lt
        have l3 := HGA.out.ans.lt
        have l4 := HGA.out.below.size
        simp only [] at l1
        exact ⟨by omega, by omega, by omega, by omega, fun e => by have := (HGA.out.own.lt q8 e).2; omega⟩
      have HO1 : Hid (OpV (wA.alloc (.cells #[.int .i64 K0, .string ⟨#[]⟩, .string ⟨#[]⟩, .int .i64 0, .int .i64 0] 24)) q8 ⟨K0, ⟨#[]⟩, ⟨#[]⟩, 0, 0⟩) := by rw [hq8]; exact OpV.made wA ⟨K0, ⟨#[]⟩, ⟨#[]⟩, 0, 0⟩ _
      have HG1 : Hid (GetS w (wA.alloc (.cells #[.int .i64 K0, .string ⟨#[]⟩, .string ⟨#[]⟩, .int .i64 0, .int .i64 0] 24)) q0 qr qq (.slice av nv cv) b yA bA s n u os) := HGA.out.other (World.grownBy_alloc _ _ (some q8)) H8.out.1 H8.out.2.1 H8.out.2.2.1 H8.out.2.2.2.1 H8.out.2.2.2.2
      go_wp2_with fail
      rw [← hq8]
      clear hq8
      generalize wA.alloc (.cells #[.int .i64 K0, .string ⟨#[]⟩, .string ⟨#[]⟩, .int .i64 0, .int .i64 0] 24) = wB at *
      refine (Pw.fText_any qr 200 _ b yA bA _ HG1.out.rf).mono ?_
      rintro e wC ⟨rfl, hr, hg⟩
      rw [← HEP0.out.1, ← HPD.out.1]
      rw [← HEP0.out.2.1, ← HEP0.out.2.2] at hr
      have HG1a : Hid (GetS w wC q0 qr qq (.slice av nv cv) b yB bB s n u os) := HG1.out.read hr hg
      have HO1a : Hid (OpV wC q8 ⟨K0, ⟨#[]⟩, ⟨#[]⟩, 0, 0⟩) := HO1.out.grown hg H8.out.2.1
      clear hr hg
      have hcl := HO1a.out.box.c1
      have hfz := HO1a.out.free 1
      simp only [] at hcl
      have HO2 : Hid (OpV (wC.setCell ⟨q8, 1, none⟩ (.string PB)) q8 ⟨K0, PB, ⟨#[]⟩, 0, 0⟩) := HO1a.out.set1 PB
      have HG2 : Hid (GetS w (wC.setCell ⟨q8, 1, none⟩ (.string PB)) q0 qr qq (.slice av nv cv) b yB bB s n u os) := HG1a.out.other (grownBy_setCell wC ⟨q8, 1, none⟩ _) H8.out.1 H8.out.2.1 H8.out.2.2.1 H8.out.2.2.2.1 H8.out.2.2.2.2
      go_wp2_with fail
      clear hcl hfz
      generalize wC.setCell ⟨q8, 1, none⟩ (.string PB) = wD at *
      refine (Pw.fText_any qr 1000 _ b yB bB _ HG2.out.rf).mono ?_
      rintro e wE ⟨rfl, hr, hg⟩
      rw [← HED0.out.1, ← HPD.out.2]
      rw [← HED0.out.2.1, ← HED0.out.2.2] at hr
      have HG2a : Hid (GetS w wE q0 qr qq (.slice av nv cv) b yC bC s n u os) := HG2.out.read hr hg
      have HO2a : Hid (OpV wE q8 ⟨K0, PB, ⟨#[]⟩, 0, 0⟩) := HO2.out.grown hg H8.out.2.1
      clear hr hg
      have hcl := HO2a.out.box.c2
      have hfz := HO2a.out.free 2
      simp only [] at hcl
      have HO3 : Hid (OpV (wE.setCell ⟨q8, 2, none⟩ (.string DB)) q8 ⟨K0, PB, DB, 0, 0⟩) := HO2a.out.set2 DB
      have HG3 : Hid (GetS w (wE.setCell ⟨q8, 2, none⟩ (.string DB)) q0 qr qq (.slice av nv cv) b yC bC s n u os) := HG2a.out.other (grownBy_setCell wE ⟨q8, 2, none⟩ _) H8.out.1 H8.out.2.1 H8.out.2.2.1 H8.out.2.2.2.1 H8.out.2.2.2.2
      go_wp2_with fail
      clear hcl hfz
      generalize wE.setCell ⟨q8, 2, none⟩ (.string DB) = wF at *
      refine (Pw.fI64_any qr _ b yC bC _ HG3.out.rf).mono ?_
      rintro e wG ⟨rfl, hr, hg⟩
      rw [← HEV0.out.1]
      rw [← HEV0.out.2.1, ← HEV0.out.2.2] at hr
      have HG3a : Hid (GetS w wG q0 qr qq (.slice av nv cv) b yD bD s n u os) := HG3.out.read hr hg
      have HO3a : Hid (OpV wG q8 ⟨K0, PB, DB, 0, 0⟩) := HO3.out.grown hg H8.out.2.1
      clear hr hg
      have hcl := HO3a.out.box.c3
      have hfz := HO3a.out.free 3
      simp only [] at hcl
      have HO4 : Hid (OpV (wG.setCell ⟨q8, 3, none⟩ (.int .i64 V0)) q8 ⟨K0, PB, DB, V0, 0⟩) := HO3a.out.set3 V0
      have HG4 : Hid (GetS w (wG.setCell ⟨q8, 3, none⟩ (.int .i64 V0)) q0 qr qq (.slice av nv cv) b yD bD s n u os) := HG3a.out.other (grownBy_setCell wG ⟨q8, 3, none⟩ _) H8.out.1 H8.out.2.1 H8.out.2.2.1 H8.out.2.2.2.1 H8.out.2.2.2.2
      go_wp2_with fail
      clear hcl hfz
      generalize wG.setCell ⟨q8, 3, none⟩ (.int .i64 V0) = wH at *
      refine (Pw.fI64_any qr _ b yD bD _ HG4.out.rf).mono ?_
      rintro e wI ⟨rfl, hr, hg⟩
      rw [← HEF0.out.1]
      rw [← HEF0.out.2.1, ← HEF0.out.2.2] at hr
      have HG4a : Hid (GetS w wI q0 qr qq (.slice av nv cv) b yE bE s n u os) := HG4.out.read hr hg
      have HO4a : Hid (OpV wI q8 ⟨K0, PB, DB, V0, 0⟩) := HO4.out.grown hg H8.out.2.1
      clear hr hg
      have hcl := HO4a.out.box.c4
      have hfz := HO4a.out.free 4
      simp only [] at hcl
      have HO5 : Hid (OpV (wI.setCell ⟨q8, 4, none⟩ (.int .i64 F0)) q8 ⟨K0, PB, DB, V0, F0⟩) := HO4a.out.set4 F0
      have HG5 : Hid (GetS w (wI.setCell ⟨q8, 4, none⟩ (.int .i64 F0)) q0 qr qq (.slice av nv cv) b yE bE s n u os) := HG4a.out.other (grownBy_setCell wI ⟨q8, 4, none⟩ _) H8.out.1 H8.out.2.1 H8.out.2.2.1 H8.out.2.2.2.1 H8.out.2.2.2.2
      have hcq := HG4a.out.req.box.c2
      have ho0 := HO4a.out.box.c0
      have ho1 := HO4a.out.box.c1
      have ho2 := HO4a.out.box.c2
      have ho3 := HO4a.out.box.c3
      simp only [] at ho0 ho1 ho2 ho3
      have hne8 := H8.out.2.2.1
      have hne8' := H8.out.2.2.1.symm
      have hln : os.length ≤ 1000 := by have := HRD.out.1; omega
      go_wp2_with (at_builtin; refine append_op1 rfl _ _ rfl w.heap.size u os ⟨K0, PB, DB, V0, F0⟩ (wI.setCell ⟨q8, 4, none⟩ (.int .i64 F0)) _ (by simp) rfl rfl HG5.out.own HG5.out.below.size hln ?_)
      intro u' wK ho' hg'
      obtain ⟨au, mu, cu, rfl⟩ := own_slice ho'
      have HRQ : Hid (ReqV wK qq s n u) := HG5.out.reqAt (World.grownBy_alloc _ _ none) hg'
      have HGK : Hid (GetS w (wK.setCell ⟨qq, 2, none⟩ (.slice au mu cu)) q0 qr qq (.slice av nv cv) b yE bE s n (.slice au mu cu) (os ++ [⟨K0, PB, DB, V0, F0⟩])) :=
        HG5.out.push ⟨_, _, _, rfl⟩ (World.grownBy_alloc _ _ none) (by rw [List.length_append, List.flatMap_append]; simpa using ho') hg'
      clear ho' hg' hcl hfz hcq ho0 ho1 ho2 ho3
      have hcl := HRQ.out.box.c2
      have hfz := HRQ.out.free 2
      go_wp2
      clear hcl hfz
      generalize wK.setCell ⟨qq, 2, none⟩ (.slice au mu cu) = wL at *
      go_roundw
      case rel =>
        refine ⟨k + 1, yE, bE, .slice au mu cu, os ++ [⟨K0, PB, DB, V0, F0⟩], by omega, by go_num, by rw [List.length_append, HRD.out.1]; rfl, HGK.out, ?_⟩
        have h := HRD.out.2
        have e : c - k = (c - (k + 1)) + 1 := by omega
        rw [e, Oq.rdL, if_neg (by simp), HRO.out] at h
        rw [h]
        simp
      case measure => simp [intOf]; omega
    · have hx : Oq.rdL c y4 b4 = (os, ys, bad) := by
        have h := HRD.out.2
        by_cases hkc : k < c
        · have hbad : bad = true := by
            cases bad with
            | true => rfl
            | false => exact absurd ⟨hkc, rfl⟩ hgo
          subst hbad
          have e : c - k = (c - (k + 1)) + 1 := by omega
          rw [e, Oq.rdL, if_pos rfl] at h
          rw [h]
          simp
        · have e : c - k = 0 := by omega
          rw [e, Oq.rdL] at h
          rw [h]
          simp
      have HX : Hid (Oq.rdL c y4 b4 = (os, ys, bad)) := hx
      clear hx
      obtain ⟨au, mu, cu, rfl⟩ := own_slice HGS.out.own
      have HFS : Hid (FinS w wr q0 qq (.slice av nv cv) b s n (.slice au mu cu) os) := HGS.out.fin
      have HNO : Hid ((!bad && ys.isEmpty) = false → ∀ s' n' os', ¬ Is b s' n' os') := by
        have h : (!bad && ys.isEmpty) = false → ∀ s' n' os', ¬ Is b s' n' os' := fun hE s' n' os' hi => by
          have h := (is_read hi HEQ.out).2.2
          rw [HX.out] at h
          simp only [Prod.mk.injEq] at h
          rw [h.2.1, h.2.2] at hE
          cases hE
        exact h
      have HRF : Hid (Pw.Rf wr.drew qr (.slice av nv cv) b ys bad) := Rf.drew HGS.out.rf
      obtain ⟨Z, hZ⟩ : ∃ Z : ByteArray, Z = ⟨b.toArray⟩ := ⟨_, rfl⟩
      have HZ : Hid (Z = ⟨b.toArray⟩) := hZ
      clear hZ
      have HSN : Hid (Sane os) := by
        have h : Sane os := fun o ho => by
          have h := (rdL_fine c y4 b4 o (by rw [HX.out]; exact ho)).2
          unfold maxLen
          omega
        exact h
      by_cases hkc : k < c
      · have hbad : bad = true := by
          cases bad with
          | true => rfl
          | false => exact absurd ⟨hkc, rfl⟩ hgo
        subst hbad
        have hkc' : (k : Int) < (c : Int) := by omega
        have HE : Hid ((!true && ys.isEmpty) = false) := rfl
        go_wp2_with fail
        clear hb2c
        have HF0 : Hid (FinS w wr.drew q0 qq (.slice av nv cv) b s n (.slice au mu cu) os) := HFS.out.later (Below.refl _ wr).drew
        refine wp_region_held_drew (S := (S4 qq s n (.slice au mu cu) (.slice av nv cv) Z)) (by kernel_rfl) (S4.of HF0.out.req HF0.out.bs HZ.out) (fun hHeld => ?_)
        refine' take_at (i := 0) (d := 52) (v := _) rfl rfl (by kernel_rfl) (by kernel_rfl) (by kernel_rfl) (fun _ _ _ h => h) (Or.inl ⟨by rfl, ?h0⟩) (by assumption) ?_
        case h0 => intro w hSw; unfold S4 at hSw; go_simp; with_reducible rfl
        simp only [List.setIfInBounds_toArray, List.set_cons_zero, List.set_cons_succ]
        refine wpAnyH_ready (rs := [1]) (by kernel_rfl) (by simp) ?_
        refine AllReadyH.cons (o := _) rfl (fun K hK => ?_) AllReadyH.nil
        go_simp
        refine (Pw.fEnd_any qr _ b ys true _ HRF.out).mono ?_
        rintro e wa ⟨rfl, nd, hwa⟩
        rw [HE.out]
        have HFa : Hid (FinS w wa q0 qq (.slice av nv cv) b s n (.slice au mu cu) os) := by rw [hwa]; exact HFS.out.later (below_drewN (Below.refl _ wr).drew nd)
        clear hwa
        simp only []
        refine hK.out _ _ (S4.of HFa.out.req HFa.out.bs HZ.out) (fun hHeld2 => ?_)
        clear hK K hHeld
        refine' take_at (i := 2) (d := 54) (v := _) rfl rfl (by kernel_rfl) (by kernel_rfl) (by kernel_rfl) (fun _ _ _ h => h) (Or.inl ⟨by rfl, ?h2⟩) (by assumption) ?_
        case h2 => intro w hSw; unfold S4 at hSw; go_simp; with_reducible rfl
        simp only [List.setIfInBounds_toArray, List.set_cons_zero, List.set_cons_succ]
        refine' take_at (i := 3) (d := 55) (v := _) rfl rfl (by kernel_rfl) (by kernel_rfl) (by kernel_rfl) (fun _ _ _ h => h) (Or.inl ⟨by rfl, ?h3⟩) (by assumption) ?_
        case h3 => intro w hSw; unfold S4 at hSw; go_simp; with_reducible rfl
        simp only [List.setIfInBounds_toArray, List.set_cons_zero, List.set_cons_succ]
        refine' take_at (i := 4) (d := 56) (v := undef) rfl rfl (by kernel_rfl) (by kernel_rfl) (by kernel_rfl) (fun _ _ _ h => h) (Or.inr ⟨by rfl, rfl⟩) (by assumption) ?_
        simp only [List.setIfInBounds_toArray, List.set_cons_zero, List.set_cons_succ]
        refine' take_at (i := 5) (d := 57) (v := undef) rfl rfl (by kernel_rfl) (by kernel_rfl) (by kernel_rfl) (fun _ _ _ h => h) (Or.inr ⟨by rfl, rfl⟩) (by assumption) ?_
        simp only [List.setIfInBounds_toArray, List.set_cons_zero, List.set_cons_succ]
        refine' take_at (i := 6) (d := 58) (v := undef) rfl rfl (by kernel_rfl) (by kernel_rfl) (by kernel_rfl) (fun _ _ _ h => h) (Or.inr ⟨by rfl, rfl⟩) (by assumption) ?_
        simp only [List.setIfInBounds_toArray, List.set_cons_zero, List.set_cons_succ]
        refine' take_at (i := 7) (d := 59) (v := undef) rfl rfl (by kernel_rfl) (by kernel_rfl) (by kernel_rfl) (fun _ _ _ h => h) (Or.inr ⟨by rfl, rfl⟩) (by assumption) ?_
        simp only [List.setIfInBounds_toArray, List.set_cons_zero, List.set_cons_succ]
        refine' take_at (i := 8) (d := 60) (v := undef) rfl rfl (by kernel_rfl) (by kernel_rfl) (by kernel_rfl) (fun _ _ _ h => h) (Or.inr ⟨by rfl, rfl⟩) (by assumption) ?_
        simp only [List.setIfInBounds_toArray, List.set_cons_zero, List.set_cons_succ]
        refine' take_at (i := 9) (d := 61) (v := undef) rfl rfl (by kernel_rfl) (by kernel_rfl) (by kernel_rfl) (fun _ _ _ h => h) (Or.inr ⟨by rfl, rfl⟩) (by assumption) ?_
        simp only [List.setIfInBounds_toArray, List.set_cons_zero, List.set_cons_succ]
        refine' take_at (i := 10) (d := 62) (v := _) rfl rfl (by kernel_rfl) (by kernel_rfl) (by kernel_rfl) (fun _ _ _ h => h) (Or.inl ⟨by rfl, ?h10⟩) (by assumption) ?_
        case h10 => intro w hSw; unfold S4 at hSw; go_simp; with_reducible rfl
        simp only [List.setIfInBounds_toArray, List.set_cons_zero, List.set_cons_succ]
        refine' take_at (i := 11) (d := 63) (v := _) rfl rfl (by kernel_rfl) (by kernel_rfl) (by kernel_rfl) (fun _ _ _ h => h) (Or.inl ⟨by rfl, ?h11⟩) (by assumption) ?_
        case h11 => intro w hSw; unfold S4 at hSw; go_simp; with_reducible rfl
        simp only [List.setIfInBounds_toArray, List.set_cons_zero, List.set_cons_succ]
        refine' take_at (i := 12) (d := 64) (v := undef) rfl rfl (by kernel_rfl) (by kernel_rfl) (by kernel_rfl) (fun _ _ _ h => h) (Or.inr ⟨by rfl, rfl⟩) (by assumption) ?_
        simp only [List.setIfInBounds_toArray, List.set_cons_zero, List.set_cons_succ]
        refine' take_at (i := 13) (d := 65) (v := undef) rfl rfl (by kernel_rfl) (by kernel_rfl) (by kernel_rfl) (fun _ _ _ h => h) (Or.inr ⟨by rfl, rfl⟩) (by assumption) ?_
        simp only [List.setIfInBounds_toArray, List.set_cons_zero, List.set_cons_succ]
        refine' take_at (i := 14) (d := 66) (v := undef) rfl rfl (by kernel_rfl) (by kernel_rfl) (by kernel_rfl) (fun _ _ _ h => h) (Or.inr ⟨by rfl, rfl⟩) (by assumption) ?_
        simp only [List.setIfInBounds_toArray, List.set_cons_zero, List.set_cons_succ]
        refine' take_at (i := 15) (d := 67) (v := _) rfl rfl (by kernel_rfl) (by kernel_rfl) (by kernel_rfl) (fun _ _ _ h => h) (Or.inl ⟨by rfl, ?h15⟩) (by assumption) ?_
        case h15 => intro w hSw; unfold S4 at hSw; go_simp; with_reducible rfl
        simp only [List.setIfInBounds_toArray, List.set_cons_zero, List.set_cons_succ]
        refine wpAnyH_done (by kernel_rfl) ?_ _
        clear hHeld2
        have hc0 := HFa.out.ans.box.c0
        have hc1 := HFa.out.ans.box.c1
        have hc2 := HFa.out.ans.box.c2
        have hf0 := HFa.out.ans.free 0
        have hf1 := HFa.out.ans.free 1
        have hf2 := HFa.out.ans.free 2
        go_wp2
        clear hc0 hc1 hc2 hf0 hf1 hf2
        have htold := HFa.out.told 0 0 (.slice none 0 0)
        generalize ((wa.setCell ⟨q0, 0, none⟩ (.int .i64 0)).setCell ⟨q0, 1, none⟩ (.int .i64 0)).setCell ⟨q0, 2, none⟩ (.slice none 0 0) = wz at *
        obtain ⟨hzb, ⟨hz0, hz1, hz2⟩, _⟩ := htold
        (try simp only [Exit.inBlock, Exit.then])
        refine bodyPost_ret (v := .tuple #[.agg #[.int .i64 0, .int .i64 0, .slice none 0 0], .bool false]) ?_ rfl ⟨hzb, Or.inr ⟨rfl, HNO.out HE.out⟩⟩
        rw [results_cell_tmp rfl]
        go_simp
      · have hkc' : ¬ (k : Int) < (c : Int) := by omega
        go_wp2_with fail
        by_cases hE : (!bad && ys.isEmpty) = true
        · have HE : Hid ((!bad && ys.isEmpty) = true) := hE
          clear hE
          clear hb2c
          have HF0 : Hid (FinS w wr.drew q0 qq (.slice av nv cv) b s n (.slice au mu cu) os) := HFS.out.later (Below.refl _ wr).drew
          refine wp_region_held_drew (S := (S4 qq s n (.slice au mu cu) (.slice av nv cv) Z)) (by kernel_rfl) (S4.of HF0.out.req HF0.out.bs HZ.out) (fun hHeld => ?_)
          refine' take_at (i := 0) (d := 52) (v := _) rfl rfl (by kernel_rfl) (by kernel_rfl) (by kernel_rfl) (fun _ _ _ h => h) (Or.inl ⟨by rfl, ?h0⟩) (by assumption) ?_
          case h0 => intro w hSw; unfold S4 at hSw; go_simp; with_reducible rfl
          simp only [List.setIfInBounds_toArray, List.set_cons_zero, List.set_cons_succ]
          refine wpAnyH_ready (rs := [1]) (by kernel_rfl) (by simp) ?_
          refine AllReadyH.cons (o := _) rfl (fun K hK => ?_) AllReadyH.nil
          go_simp
          refine (Pw.fEnd_any qr _ b ys bad _ HRF.out).mono ?_
          rintro e wa ⟨rfl, nd, hwa⟩
          rw [HE.out]
          have HFa : Hid (FinS w wa q0 qq (.slice av nv cv) b s n (.slice au mu cu) os) := by rw [hwa]; exact HFS.out.later (below_drewN (Below.refl _ wr).drew nd)
          clear hwa
          simp only []
          refine hK.out _ _ (S4.of HFa.out.req HFa.out.bs HZ.out) (fun hHeld2 => ?_)
          clear hK K hHeld
          refine' take_at (i := 2) (d := 54) (v := _) rfl rfl (by kernel_rfl) (by kernel_rfl) (by kernel_rfl) (fun _ _ _ h => h) (Or.inl ⟨by rfl, ?h2⟩) (by assumption) ?_
          case h2 => intro w hSw; unfold S4 at hSw; go_simp; with_reducible rfl
          simp only [List.setIfInBounds_toArray, List.set_cons_zero, List.set_cons_succ]
          refine' take_at (i := 3) (d := 55) (v := _) rfl rfl (by kernel_rfl) (by kernel_rfl) (by kernel_rfl) (fun _ _ _ h => h) (Or.inl ⟨by rfl, ?h3⟩) (by assumption) ?_
          case h3 => intro w hSw; unfold S4 at hSw; go_simp; with_reducible rfl
          simp only [List.setIfInBounds_toArray, List.set_cons_zero, List.set_cons_succ]
          refine' take_at (i := 4) (d := 56) (v := _) rfl rfl (by kernel_rfl) (by kernel_rfl) (by kernel_rfl) (fun _ _ _ h => h) (Or.inl ⟨by rfl, ?h4⟩) (by assumption) ?_
          case h4 => intro w hSw; unfold S4 at hSw; go_simp; with_reducible rfl
          simp only [List.setIfInBounds_toArray, List.set_cons_zero, List.set_cons_succ]
          refine' take_at (i := 7) (d := 59) (v := _) rfl rfl (by kernel_rfl) (by kernel_rfl) (by kernel_rfl) (fun _ _ _ h => h) (Or.inl ⟨by rfl, ?h7⟩) (by assumption) ?_
          case h7 => intro w hSw; unfold S4 at hSw; go_simp; with_reducible rfl
          simp only [List.setIfInBounds_toArray, List.set_cons_zero, List.set_cons_succ]
          refine' take_at (i := 8) (d := 60) (v := _) rfl rfl (by kernel_rfl) (by kernel_rfl) (by kernel_rfl) (fun _ _ _ h => h) (Or.inl ⟨by rfl, ?h8⟩) (by assumption) ?_
          case h8 => intro w hSw; unfold S4 at hSw; go_simp; with_reducible rfl
          simp only [List.setIfInBounds_toArray, List.set_cons_zero, List.set_cons_succ]
          refine wpAnyH_ready (rs := [5]) (by kernel_rfl) (by simp) ?_
          refine AllReadyH.cons (o := _) rfl (fun K hK => ?_) AllReadyH.nil
          go_simp
          refine (refPut_any s n _ os _ HFa.out.ol HSN.out).mono ?_
          rintro e wb ⟨vb, rfl, hbs, hb⟩
          obtain ⟨X, hX⟩ : ∃ X : ByteArray, X = ⟨(Oq.put s n os).toArray⟩ := ⟨_, rfl⟩
          have HXX : Hid (X = ⟨(Oq.put s n os).toArray⟩) := hX
          have HVb : Hid (Bs wb vb (Oq.put s n os)) := hbs
          have HFb : Hid (FinS w wb q0 qq (.slice av nv cv) b s n (.slice au mu cu) os) := HFa.out.later hb
          clear hb hbs hX
          simp only []
          refine hK.out _ _ (S4.of HFb.out.req HFb.out.bs HZ.out) (fun hHeld => ?_)
          clear hK K hHeld2
          have hS5 : (fun w' => S4 qq s n (.slice au mu cu) (.slice av nv cv) Z w' ∧ (convert 27 9 vb).run Tryz.prog w' = .ok (.string X) w') wb := ⟨S4.of HFb.out.req HFb.out.bs HZ.out, by rw [HXX.out]; exact HVb.out.conv⟩
          refine wpAnyH_more (S' := (fun w' => S4 qq s n (.slice au mu cu) (.slice av nv cv) Z w' ∧ (convert 27 9 vb).run Tryz.prog w' = .ok (.string X) w')) (fun _ h => h.1) _ _ _ _ ?_
          refine' take_at (i := 6) (d := 58) (v := _) rfl rfl (by kernel_rfl) (by kernel_rfl) (by kernel_rfl) (fun _ _ _ h => h) (Or.inl ⟨by rfl, ?h6⟩) (by assumption) ?_
          case h6 => intro w hSw; unfold S4 at hSw; go_simp; with_reducible rfl
          simp only [List.setIfInBounds_toArray, List.set_cons_zero, List.set_cons_succ]
          obtain ⟨B, hB⟩ : ∃ B : Bool, (X.toList == Z.toList) = B := ⟨_, rfl⟩
          have HBQ : Hid (B = true ↔ Oq.put s n os = b) := by
            have h : B = true ↔ Oq.put s n os = b := by
              rw [← hB, HXX.out, HZ.out, ByteArray.toList_eq, ByteArray.toList_eq]
              simp only [beq_iff_eq]
            exact h
          cases B with
          | false =>
            have HNB : Hid (∀ s' n' os', ¬ Is b s' n' os') := by
              have h : ∀ s' n' os', ¬ Is b s' n' os' := fun s' n' os' hi => by
                obtain ⟨e1, e2, e3⟩ := is_read hi HEQ.out
                rw [HX.out] at e3
                simp only [Prod.mk.injEq] at e3
                have e4 : Oq.put s n os = b := by
                  rw [e1, e2, e3.1]
                  unfold Oq.put
                  rw [if_pos hi.1]
                  exact hi.2.1
                have e5 := HBQ.out.2 e4
                cases e5
              exact h
            refine' take_at (i := 9) (d := 61) (v := _) rfl rfl (by kernel_rfl) (by kernel_rfl) (by kernel_rfl) (fun _ _ _ h => h) (Or.inl ⟨by rfl, ?h9⟩) (by assumption) ?_
            case h9 => intro w hSw; unfold S4 at hSw; go_simp; with_reducible rfl
            simp only [List.setIfInBounds_toArray, List.set_cons_zero, List.set_cons_succ]
            refine' take_at (i := 10) (d := 62) (v := _) rfl rfl (by kernel_rfl) (by kernel_rfl) (by kernel_rfl) (fun _ _ _ h => h) (Or.inl ⟨by rfl, ?h10⟩) (by assumption) ?_
            case h10 => intro w hSw; unfold S4 at hSw; go_simp; with_reducible rfl
            simp only [List.setIfInBounds_toArray, List.set_cons_zero, List.set_cons_succ]
            refine' take_at (i := 11) (d := 63) (v := _) rfl rfl (by kernel_rfl) (by kernel_rfl) (by kernel_rfl) (fun _ _ _ h => h) (Or.inl ⟨by rfl, ?h11⟩) (by assumption) ?_
            case h11 => intro w hSw; unfold S4 at hSw; go_simp; with_reducible rfl
            simp only [List.setIfInBounds_toArray, List.set_cons_zero, List.set_cons_succ]
            refine' take_at (i := 12) (d := 64) (v := undef) rfl rfl (by kernel_rfl) (by kernel_rfl) (by kernel_rfl) (fun _ _ _ h => h) (Or.inr ⟨by rfl, rfl⟩) (by assumption) ?_
            simp only [List.setIfInBounds_toArray, List.set_cons_zero, List.set_cons_succ]
            refine' take_at (i := 13) (d := 65) (v := undef) rfl rfl (by kernel_rfl) (by kernel_rfl) (by kernel_rfl) (fun _ _ _ h => h) (Or.inr ⟨by rfl, rfl⟩) (by assumption) ?_
            simp only [List.setIfInBounds_toArray, List.set_cons_zero, List.set_cons_succ]
            refine' take_at (i := 14) (d := 66) (v := undef) rfl rfl (by kernel_rfl) (by kernel_rfl) (by kernel_rfl) (fun _ _ _ h => h) (Or.inr ⟨by rfl, rfl⟩) (by assumption) ?_
            simp only [List.setIfInBounds_toArray, List.set_cons_zero, List.set_cons_succ]
            refine' take_at (i := 15) (d := 67) (v := _) rfl rfl (by kernel_rfl) (by kernel_rfl) (by kernel_rfl) (fun _ _ _ h => h) (Or.inl ⟨by rfl, ?h15⟩) (by assumption) ?_
            case h15 => intro w hSw; unfold S4 at hSw; go_simp; with_reducible rfl
            simp only [List.setIfInBounds_toArray, List.set_cons_zero, List.set_cons_succ]
            refine wpAnyH_done (by kernel_rfl) ?_ _
            clear hHeld hS5 hB
            have hc0 := HFb.out.ans.box.c0
            have hc1 := HFb.out.ans.box.c1
            have hc2 := HFb.out.ans.box.c2
            have hf0 := HFb.out.ans.free 0
            have hf1 := HFb.out.ans.free 1
            have hf2 := HFb.out.ans.free 2
            go_wp2
            clear hc0 hc1 hc2 hf0 hf1 hf2
            have htold := HFb.out.told 0 0 (.slice none 0 0)
            generalize ((wb.setCell ⟨q0, 0, none⟩ (.int .i64 0)).setCell ⟨q0, 1, none⟩ (.int .i64 0)).setCell ⟨q0, 2, none⟩ (.slice none 0 0) = wz at *
            obtain ⟨hzb, ⟨hz0, hz1, hz2⟩, _⟩ := htold
            (try simp only [Exit.inBlock, Exit.then])
            refine bodyPost_ret (v := .tuple #[.agg #[.int .i64 0, .int .i64 0, .slice none 0 0], .bool false]) ?_ rfl ⟨hzb, Or.inr ⟨rfl, HNB.out⟩⟩
            rw [results_cell_tmp rfl]
            go_simp
          | true =>
            refine' take_at (i := 9) (d := 61) (v := _) rfl rfl (by kernel_rfl) (by kernel_rfl) (by kernel_rfl) (fun _ _ _ h => h) (Or.inl ⟨by rfl, ?h9⟩) (by assumption) ?_
            case h9 => intro w hSw; unfold S4 at hSw; go_simp; with_reducible rfl
            simp only [List.setIfInBounds_toArray, List.set_cons_zero, List.set_cons_succ]
            refine' take_at (i := 10) (d := 62) (v := _) rfl rfl (by kernel_rfl) (by kernel_rfl) (by kernel_rfl) (fun _ _ _ h => h) (Or.inl ⟨by rfl, ?h10⟩) (by assumption) ?_
            case h10 => intro w hSw; unfold S4 at hSw; go_simp; with_reducible rfl
            simp only [List.setIfInBounds_toArray, List.set_cons_zero, List.set_cons_succ]
            refine' take_at (i := 11) (d := 63) (v := _) rfl rfl (by kernel_rfl) (by kernel_rfl) (by kernel_rfl) (fun _ _ _ h => h) (Or.inl ⟨by rfl, ?h11⟩) (by assumption) ?_
            case h11 => intro w hSw; unfold S4 at hSw; go_simp; with_reducible rfl
            simp only [List.setIfInBounds_toArray, List.set_cons_zero, List.set_cons_succ]
            refine' take_at (i := 12) (d := 64) (v := _) rfl rfl (by kernel_rfl) (by kernel_rfl) (by kernel_rfl) (fun _ _ _ h => h) (Or.inl ⟨by rfl, ?h12⟩) (by assumption) ?_
            case h12 => intro w hSw; unfold S4 at hSw; go_simp; with_reducible rfl
            simp only [List.setIfInBounds_toArray, List.set_cons_zero, List.set_cons_succ]
            refine wpAnyH_ready (rs := [13]) (by kernel_rfl) (by simp) ?_
            refine AllReadyH.cons (o := _) rfl (fun K hK => ?_) AllReadyH.nil
            go_simp
            refine (refMay_any s n _ os _ HFb.out.ol HSN.out).mono ?_
            rintro e wd ⟨rfl, hb⟩
            have HVd : Hid (Bs wd vb (Oq.put s n os)) := HVb.out.below hb
            have HFd : Hid (FinS w wd q0 qq (.slice av nv cv) b s n (.slice au mu cu) os) := HFb.out.later hb
            clear hb
            obtain ⟨M, hM⟩ : ∃ M : Int, M = Oq.may s n os := ⟨_, rfl⟩
            rw [← hM]
            have HM : Hid (M = Oq.may s n os) := hM
            clear hM
            simp only []
            refine hK.out _ _ ⟨S4.of HFd.out.req HFd.out.bs HZ.out, by rw [HXX.out]; exact HVd.out.conv⟩ (fun hHeld2 => ?_)
            clear hK K hHeld hS5
            by_cases hM0 : M = 0
            · subst hM0
              have HIS : Hid (Is b s n os) := by
                have h : Is b s n os := by
                  have h1 := HBQ.out.1 rfl
                  unfold Oq.put at h1
                  rw [if_pos HM.out.symm] at h1
                  exact ⟨HM.out.symm, h1, by rw [HEQ.out.1.1]; exact rI_rng _ _, by rw [HEQ.out.2.1.1]; exact rI_rng _ _, fun o ho => (rdL_fine c y4 b4 o (by rw [HX.out]; exact ho)).1⟩
                exact h
              refine' take_at (i := 14) (d := 66) (v := _) rfl rfl (by kernel_rfl) (by kernel_rfl) (by kernel_rfl) (fun _ _ _ h => h) (Or.inl ⟨by rfl, ?h14⟩) (by assumption) ?_
              case h14 => intro w hSw; unfold S4 at hSw; go_simp; with_reducible rfl
              simp only [List.setIfInBounds_toArray, List.set_cons_zero, List.set_cons_succ]
              refine' take_at (i := 15) (d := 67) (v := _) rfl rfl (by kernel_rfl) (by kernel_rfl) (by kernel_rfl) (fun _ _ _ h => h) (Or.inl ⟨by rfl, ?h15⟩) (by assumption) ?_
              case h15 => intro w hSw; unfold S4 at hSw; go_simp; with_reducible rfl
              simp only [List.setIfInBounds_toArray, List.set_cons_zero, List.set_cons_succ]
              refine wpAnyH_done (by kernel_rfl) ?_ _
              clear hHeld2 hB
              have hc0 := HFd.out.ans.box.c0
              have hc1 := HFd.out.ans.box.c1
              have hc2 := HFd.out.ans.box.c2
              have hf0 := HFd.out.ans.free 0
              have hf1 := HFd.out.ans.free 1
              have hf2 := HFd.out.ans.free 2
              have hr0 := HFd.out.req.c0
              have hr1 := HFd.out.req.c1
              have hr2 := HFd.out.req.c2
              go_wp2
              clear hc0 hc1 hc2 hf0 hf1 hf2 hr0 hr1 hr2
              have htold := HFd.out.told s n (.slice au mu cu)
              generalize ((wd.setCell ⟨q0, 0, none⟩ (.int .i64 s)).setCell ⟨q0, 1, none⟩ (.int .i64 n)).setCell ⟨q0, 2, none⟩ (.slice au mu cu) = wz at *
              obtain ⟨hzb, ⟨hz0, hz1, hz2⟩, hol⟩ := htold
              (try simp only [Exit.inBlock, Exit.then])
              refine bodyPost_ret (v := .tuple #[.agg #[.int .i64 s, .int .i64 n, .slice au mu cu], .bool true]) ?_ rfl ⟨hzb, Or.inl ⟨s, n, _, rfl, os, hol, HIS.out⟩⟩
              rw [results_cell_tmp rfl]
              go_simp
            · have HNM : Hid (∀ s' n' os', ¬ Is b s' n' os') := by
                have h : ∀ s' n' os', ¬ Is b s' n' os' := fun s' n' os' hi => by
                  obtain ⟨e1, e2, e3⟩ := is_read hi HEQ.out
                  rw [HX.out] at e3
                  simp only [Prod.mk.injEq] at e3
                  apply hM0
                  rw [HM.out, e1, e2, e3.1]
                  exact hi.1
                exact h
              refine' take_at (i := 14) (d := 66) (v := _) rfl rfl (by kernel_rfl) (by kernel_rfl) (by kernel_rfl) (fun _ _ _ h => h) (Or.inl ⟨by rfl, ?h14⟩) (by assumption) ?_
              case h14 => intro w hSw; unfold S4 at hSw; go_simp; with_reducible rfl
              simp only [List.setIfInBounds_toArray, List.set_cons_zero, List.set_cons_succ]
              refine' take_at (i := 15) (d := 67) (v := _) rfl rfl (by kernel_rfl) (by kernel_rfl) (by kernel_rfl) (fun _ _ _ h => h) (Or.inl ⟨by rfl, ?h15⟩) (by assumption) ?_
              case h15 => intro w hSw; unfold S4 at hSw; go_simp; with_reducible rfl
              simp only [List.setIfInBounds_toArray, List.set_cons_zero, List.set_cons_succ]
              refine wpAnyH_done (by kernel_rfl) ?_ _
              clear hHeld2 hB
              have hc0 := HFd.out.ans.box.c0
              have hc1 := HFd.out.ans.box.c1
              have hc2 := HFd.out.ans.box.c2
              have hf0 := HFd.out.ans.free 0
              have hf1 := HFd.out.ans.free 1
              have hf2 := HFd.out.ans.free 2
              go_wp2
              clear hc0 hc1 hc2 hf0 hf1 hf2
              have htold := HFd.out.told 0 0 (.slice none 0 0)
              generalize ((wd.setCell ⟨q0, 0, none⟩ (.int .i64 0)).setCell ⟨q0, 1, none⟩ (.int .i64 0)).setCell ⟨q0, 2, none⟩ (.slice none 0 0) = wz at *
              obtain ⟨hzb, ⟨hz0, hz1, hz2⟩, _⟩ := htold
              (try simp only [Exit.inBlock, Exit.then])
              refine bodyPost_ret (v := .tuple #[.agg #[.int .i64 0, .int .i64 0, .slice none 0 0], .bool false]) ?_ rfl ⟨hzb, Or.inr ⟨rfl, HNM.out⟩⟩
              rw [results_cell_tmp rfl]
              go_simp
        · have HE : Hid ((!bad && ys.isEmpty) = false) := by
            have h : (!bad && ys.isEmpty) = false := by
              cases h : (!bad && ys.isEmpty) with
              | true => exact absurd h hE
              | false => rfl
            exact h
          clear hE
          clear hb2c
          have HF0 : Hid (FinS w wr.drew q0 qq (.slice av nv cv) b s n (.slice au mu cu) os) := HFS.out.later (Below.refl _ wr).drew
          refine wp_region_held_drew (S := (S4 qq s n (.slice au mu cu) (.slice av nv cv) Z)) (by kernel_rfl) (S4.of HF0.out.req HF0.out.bs HZ.out) (fun hHeld => ?_)
          refine' take_at (i := 0) (d := 52) (v := _) rfl rfl (by kernel_rfl) (by kernel_rfl) (by kernel_rfl) (fun _ _ _ h => h) (Or.inl ⟨by rfl, ?h0⟩) (by assumption) ?_
          case h0 => intro w hSw; unfold S4 at hSw; go_simp; with_reducible rfl
          simp only [List.setIfInBounds_toArray, List.set_cons_zero, List.set_cons_succ]
          refine wpAnyH_ready (rs := [1]) (by kernel_rfl) (by simp) ?_
          refine AllReadyH.cons (o := _) rfl (fun K hK => ?_) AllReadyH.nil
          go_simp
          refine (Pw.fEnd_any qr _ b ys bad _ HRF.out).mono ?_
          rintro e wa ⟨rfl, nd, hwa⟩
          rw [HE.out]
          have HFa : Hid (FinS w wa q0 qq (.slice av nv cv) b s n (.slice au mu cu) os) := by rw [hwa]; exact HFS.out.later (below_drewN (Below.refl _ wr).drew nd)
          clear hwa
          simp only []
          refine hK.out _ _ (S4.of HFa.out.req HFa.out.bs HZ.out) (fun hHeld2 => ?_)
          clear hK K hHeld
          refine' take_at (i := 2) (d := 54) (v := _) rfl rfl (by kernel_rfl) (by kernel_rfl) (by kernel_rfl) (fun _ _ _ h => h) (Or.inl ⟨by rfl, ?h2⟩) (by assumption) ?_
          case h2 => intro w hSw; unfold S4 at hSw; go_simp; with_reducible rfl
          simp only [List.setIfInBounds_toArray, List.set_cons_zero, List.set_cons_succ]
          refine' take_at (i := 3) (d := 55) (v := _) rfl rfl (by kernel_rfl) (by kernel_rfl) (by kernel_rfl) (fun _ _ _ h => h) (Or.inl ⟨by rfl, ?h3⟩) (by assumption) ?_
          case h3 => intro w hSw; unfold S4 at hSw; go_simp; with_reducible rfl
          simp only [List.setIfInBounds_toArray, List.set_cons_zero, List.set_cons_succ]
          refine' take_at (i := 4) (d := 56) (v := undef) rfl rfl (by kernel_rfl) (by kernel_rfl) (by kernel_rfl) (fun _ _ _ h => h) (Or.inr ⟨by rfl, rfl⟩) (by assumption) ?_
          simp only [List.setIfInBounds_toArray, List.set_cons_zero, List.set_cons_succ]
          refine' take_at (i := 5) (d := 57) (v := undef) rfl rfl (by kernel_rfl) (by kernel_rfl) (by kernel_rfl) (fun _ _ _ h => h) (Or.inr ⟨by rfl, rfl⟩) (by assumption) ?_
          simp only [List.setIfInBounds_toArray, List.set_cons_zero, List.set_cons_succ]
          refine' take_at (i := 6) (d := 58) (v := undef) rfl rfl (by kernel_rfl) (by kernel_rfl) (by kernel_rfl) (fun _ _ _ h => h) (Or.inr ⟨by rfl, rfl⟩) (by assumption) ?_
          simp only [List.setIfInBounds_toArray, List.set_cons_zero, List.set_cons_succ]
          refine' take_at (i := 7) (d := 59) (v := undef) rfl rfl (by kernel_rfl) (by kernel_rfl) (by kernel_rfl) (fun _ _ _ h => h) (Or.inr ⟨by rfl, rfl⟩) (by assumption) ?_
          simp only [List.setIfInBounds_toArray, List.set_cons_zero, List.set_cons_succ]
          refine' take_at (i := 8) (d := 60) (v := undef) rfl rfl (by kernel_rfl) (by kernel_rfl) (by kernel_rfl) (fun _ _ _ h => h) (Or.inr ⟨by rfl, rfl⟩) (by assumption) ?_
          simp only [List.setIfInBounds_toArray, List.set_cons_zero, List.set_cons_succ]
          refine' take_at (i := 9) (d := 61) (v := undef) rfl rfl (by kernel_rfl) (by kernel_rfl) (by kernel_rfl) (fun _ _ _ h => h) (Or.inr ⟨by rfl, rfl⟩) (by assumption) ?_
          simp only [List.setIfInBounds_toArray, List.set_cons_zero, List.set_cons_succ]
          refine' take_at (i := 10) (d := 62) (v := _) rfl rfl (by kernel_rfl) (by kernel_rfl) (by kernel_rfl) (fun _ _ _ h => h) (Or.inl ⟨by rfl, ?h10⟩) (by assumption) ?_
          case h10 => intro w hSw; unfold S4 at hSw; go_simp; with_reducible rfl
          simp only [List.setIfInBounds_toArray, List.set_cons_zero, List.set_cons_succ]
          refine' take_at (i := 11) (d := 63) (v := _) rfl rfl (by kernel_rfl) (by kernel_rfl) (by kernel_rfl) (fun _ _ _ h => h) (Or.inl ⟨by rfl, ?h11⟩) (by assumption) ?_
          case h11 => intro w hSw; unfold S4 at hSw; go_simp; with_reducible rfl
          simp only [List.setIfInBounds_toArray, List.set_cons_zero, List.set_cons_succ]
          refine' take_at (i := 12) (d := 64) (v := undef) rfl rfl (by kernel_rfl) (by kernel_rfl) (by kernel_rfl) (fun _ _ _ h => h) (Or.inr ⟨by rfl, rfl⟩) (by assumption) ?_
          simp only [List.setIfInBounds_toArray, List.set_cons_zero, List.set_cons_succ]
          refine' take_at (i := 13) (d := 65) (v := undef) rfl rfl (by kernel_rfl) (by kernel_rfl) (by kernel_rfl) (fun _ _ _ h => h) (Or.inr ⟨by rfl, rfl⟩) (by assumption) ?_
          simp only [List.setIfInBounds_toArray, List.set_cons_zero, List.set_cons_succ]
          refine' take_at (i := 14) (d := 66) (v := undef) rfl rfl (by kernel_rfl) (by kernel_rfl) (by kernel_rfl) (fun _ _ _ h => h) (Or.inr ⟨by rfl, rfl⟩) (by assumption) ?_
          simp only [List.setIfInBounds_toArray, List.set_cons_zero, List.set_cons_succ]
          refine' take_at (i := 15) (d := 67) (v := _) rfl rfl (by kernel_rfl) (by kernel_rfl) (by kernel_rfl) (fun _ _ _ h => h) (Or.inl ⟨by rfl, ?h15⟩) (by assumption) ?_
          case h15 => intro w hSw; unfold S4 at hSw; go_simp; with_reducible rfl
          simp only [List.setIfInBounds_toArray, List.set_cons_zero, List.set_cons_succ]
          refine wpAnyH_done (by kernel_rfl) ?_ _
          clear hHeld2
          have hc0 := HFa.out.ans.box.c0
          have hc1 := HFa.out.ans.box.c1
          have hc2 := HFa.out.ans.box.c2
          have hf0 := HFa.out.ans.free 0
          have hf1 := HFa.out.ans.free 1
          have hf2 := HFa.out.ans.free 2
          go_wp2
          clear hc0 hc1 hc2 hf0 hf1 hf2
          have htold := HFa.out.told 0 0 (.slice none 0 0)
          generalize ((wa.setCell ⟨q0, 0, none⟩ (.int .i64 0)).setCell ⟨q0, 1, none⟩ (.int .i64 0)).setCell ⟨q0, 2, none⟩ (.slice none 0 0) = wz at *
          obtain ⟨hzb, ⟨hz0, hz1, hz2⟩, _⟩ := htold
          (try simp only [Exit.inBlock, Exit.then])
          refine bodyPost_ret (v := .tuple #[.agg #[.int .i64 0, .int .i64 0, .slice none 0 0], .bool false]) ?_ rfl ⟨hzb, Or.inr ⟨rfl, HNO.out HE.out⟩⟩
          rw [results_cell_tmp rfl]
          go_simp
end Go.Proofs.YtcpajjjkhikipaaGreatDoor
