/- What the reference's Get answers. -/
import Derived.Test.YtlgpjgncimcijaaRefF10
namespace Go.Proofs.Ytlgpjgncimcijaa
open Go.RowKit

/-- What it leaves: the reader's block, and new ones. -/
def RGetPost10 (w : World) (q : Nat) (v : Value) (b ys : List UInt8) (bad : Bool) (e : Ending) (w' : World) : Prop :=
  (Kq.Good ys bad → ∃ a L c, e = .returned (.tuple #[kv (Kq.raw ys bad).1 (.slice a L c), .bool true]) ∧ Nm w' (.slice a L c) (Kq.raw ys bad).1.names ∧ Pw.Rf w' q v b (Kq.raw ys bad).2.1 false) ∧
  (¬ Kq.Good ys bad → e = .returned (.tuple #[kv Kq.zero (.slice none 0 0), .bool false])) ∧ w.grownBy w' (some q)
theorem rdNs_bad (k : Nat) (ys : List UInt8) : Kq.rdNs k ys true = ([], ys, true) := by
  cases k <;> rfl
theorem own_lt10 {w : World} {v : Value} {b : List UInt8} (hb : Bs w v b) (h : 0 < b.length) (r : Nat) (e : v.ownBlock = some r) : r < w.heap.size := by
  obtain ⟨g, o, n, c, rfl, _, _, hc⟩ := hb.plain h
  have hlt := World.block_lt_of_cell? w _ (hc 0 b[0] (List.getElem?_eq_getElem h))
  simp only [Value.ownBlock, Option.some.injEq] at e
  simp only [] at hlt
  omega
set_option linter.unusedSimpArgs false in
set_option maxRecDepth 20000 in
set_option maxHeartbeats 16000000 in
theorem refGet_any10 (qr : Nat) (v : Value) (b ys : List UInt8) (bad : Bool) (w : World) (h : Pw.Rf w qr v b ys bad) :
    Calls Try.prog 25 #[dptr qr] w (RGetPost10 w qr v b ys bad) := by
  obtain ⟨z0, hz0⟩ : ∃ z, z = (Pk.rI ys bad).1 := ⟨_, rfl⟩
  obtain ⟨y0, hy0⟩ : ∃ z, z = (Pk.rI ys bad).2.1 := ⟨_, rfl⟩
  obtain ⟨b0, hb0⟩ : ∃ z, z = (Pk.rI ys bad).2.2 := ⟨_, rfl⟩
  have HE0 : Hid (z0 = (Pk.rI ys bad).1 ∧ y0 = (Pk.rI ys bad).2.1 ∧ b0 = (Pk.rI ys bad).2.2) := ⟨hz0, hy0, hb0⟩
  clear hz0 hy0 hb0
  obtain ⟨z1, hz1⟩ : ∃ z, z = (Pk.rI y0 b0).1 := ⟨_, rfl⟩
  obtain ⟨y1, hy1⟩ : ∃ z, z = (Pk.rI y0 b0).2.1 := ⟨_, rfl⟩
  obtain ⟨b1, hb1⟩ : ∃ z, z = (Pk.rI y0 b0).2.2 := ⟨_, rfl⟩
  have HE1 : Hid (z1 = (Pk.rI y0 b0).1 ∧ y1 = (Pk.rI y0 b0).2.1 ∧ b1 = (Pk.rI y0 b0).2.2) := ⟨hz1, hy1, hb1⟩
  clear hz1 hy1 hb1
  obtain ⟨z2, hz2⟩ : ∃ z, z = (Pk.rC 2147483647 y1 b1).1 := ⟨_, rfl⟩
  obtain ⟨y2, hy2⟩ : ∃ z, z = (Pk.rC 2147483647 y1 b1).2.1 := ⟨_, rfl⟩
  obtain ⟨b2, hb2⟩ : ∃ z, z = (Pk.rC 2147483647 y1 b1).2.2 := ⟨_, rfl⟩
  have HE2 : Hid (z2 = (Pk.rC 2147483647 y1 b1).1 ∧ y2 = (Pk.rC 2147483647 y1 b1).2.1 ∧ b2 = (Pk.rC 2147483647 y1 b1).2.2) := ⟨hz2, hy2, hb2⟩
  clear hz2 hy2 hb2
  obtain ⟨z3, hz3⟩ : ∃ z, z = (Pk.rC 2147483647 y2 b2).1 := ⟨_, rfl⟩
  obtain ⟨y3, hy3⟩ : ∃ z, z = (Pk.rC 2147483647 y2 b2).2.1 := ⟨_, rfl⟩
  obtain ⟨b3, hb3⟩ : ∃ z, z = (Pk.rC 2147483647 y2 b2).2.2 := ⟨_, rfl⟩
  have HE3 : Hid (z3 = (Pk.rC 2147483647 y2 b2).1 ∧ y3 = (Pk.rC 2147483647 y2 b2).2.1 ∧ b3 = (Pk.rC 2147483647 y2 b2).2.2) := ⟨hz3, hy3, hb3⟩
  clear hz3 hy3 hb3
  obtain ⟨z4, hz4⟩ : ∃ z, z = (Pk.rI y3 b3).1 := ⟨_, rfl⟩
  obtain ⟨y4, hy4⟩ : ∃ z, z = (Pk.rI y3 b3).2.1 := ⟨_, rfl⟩
  obtain ⟨b4, hb4⟩ : ∃ z, z = (Pk.rI y3 b3).2.2 := ⟨_, rfl⟩
  have HE4 : Hid (z4 = (Pk.rI y3 b3).1 ∧ y4 = (Pk.rI y3 b3).2.1 ∧ b4 = (Pk.rI y3 b3).2.2) := ⟨hz4, hy4, hb4⟩
  clear hz4 hy4 hb4
  obtain ⟨z5, hz5⟩ : ∃ z, z = (Pk.rC 2147483647 y4 b4).1 := ⟨_, rfl⟩
  obtain ⟨y5, hy5⟩ : ∃ z, z = (Pk.rC 2147483647 y4 b4).2.1 := ⟨_, rfl⟩
  obtain ⟨b5, hb5⟩ : ∃ z, z = (Pk.rC 2147483647 y4 b4).2.2 := ⟨_, rfl⟩
  have HE5 : Hid (z5 = (Pk.rC 2147483647 y4 b4).1 ∧ y5 = (Pk.rC 2147483647 y4 b4).2.1 ∧ b5 = (Pk.rC 2147483647 y4 b4).2.2) := ⟨hz5, hy5, hb5⟩
  clear hz5 hy5 hb5
  obtain ⟨t6, ht6⟩ : ∃ z, z = (Pk.rT 1000 y5 b5).1 := ⟨_, rfl⟩
  obtain ⟨z6, hz6⟩ : ∃ z : ByteArray, z = ⟨t6.toArray⟩ := ⟨_, rfl⟩
  obtain ⟨y6, hy6⟩ : ∃ z, z = (Pk.rT 1000 y5 b5).2.1 := ⟨_, rfl⟩
  obtain ⟨b6, hb6⟩ : ∃ z, z = (Pk.rT 1000 y5 b5).2.2 := ⟨_, rfl⟩
  have HE6 : Hid ((z6 = ⟨(Pk.rT 1000 y5 b5).1.toArray⟩ ∧ z6.size = (Pk.rT 1000 y5 b5).1.length) ∧ y6 = (Pk.rT 1000 y5 b5).2.1 ∧ b6 = (Pk.rT 1000 y5 b5).2.2) := ⟨⟨by rw [hz6, ht6], by rw [hz6, ht6]; rfl⟩, hy6, hb6⟩
  clear hz6 ht6 hy6 hb6
  obtain ⟨K, hK⟩ : ∃ c : Nat, (c : Int) = (Pk.rC 500 y6 b6).1 ∧ c ≤ 500 := ⟨(Pk.rC 500 y6 b6).1.toNat, by have := rC_in 500 y6 b6 (by decide); omega, by have := rC_in 500 y6 b6 (by decide); omega⟩
  obtain ⟨y7, hy7⟩ : ∃ z, z = (Pk.rC 500 y6 b6).2.1 := ⟨_, rfl⟩
  obtain ⟨b7, hb7⟩ : ∃ z, z = (Pk.rC 500 y6 b6).2.2 := ⟨_, rfl⟩
  have HE7 : Hid (((K : Int) = (Pk.rC 500 y6 b6).1) ∧ y7 = (Pk.rC 500 y6 b6).2.1 ∧ b7 = (Pk.rC 500 y6 b6).2.2) := ⟨hK.1, hy7, hb7⟩
  have hK5 : K ≤ 500 := hK.2
  clear hK hy7 hb7
  obtain ⟨qz, hqz⟩ : ∃ z, z = w.heap.size := ⟨_, rfl⟩
  obtain ⟨qn, hqn⟩ : ∃ z, z = w.heap.size + 1 := ⟨_, rfl⟩
  have HS0 : Hid (GetS10 w ((w.alloc (.cells #[.int .i64 0, .int .i64 0, .int .i64 0, .int .i64 0, .int .i64 0, .int .i64 0, .int .i64 0, .string ⟨#[]⟩, .int .i64 0, .slice none 0 0] 40)).alloc (.cells #[.int .i64 0, .int .i64 0, .int .i64 0, .int .i64 0, .int .i64 0, .int .i64 0, .int .i64 0, .string ⟨#[]⟩, .int .i64 0, .slice none 0 0] 40)) qz qn qr v b ys bad (⟨0, 0, 0, 0, 0, 0, 0, ⟨#[]⟩, 0, []⟩ : Kq.Kn) (.slice none 0 0)) := by
    have hg1 := World.grownBy_alloc w (.cells #[.int .i64 0, .int .i64 0, .int .i64 0, .int .i64 0, .int .i64 0, .int .i64 0, .int .i64 0, .string ⟨#[]⟩, .int .i64 0, .slice none 0 0] 40) (some w.heap.size)
    have hg2 := World.grownBy_alloc (w.alloc (.cells #[.int .i64 0, .int .i64 0, .int .i64 0, .int .i64 0, .int .i64 0, .int .i64 0, .int .i64 0, .string ⟨#[]⟩, .int .i64 0, .slice none 0 0] 40)) (.cells #[.int .i64 0, .int .i64 0, .int .i64 0, .int .i64 0, .int .i64 0, .int .i64 0, .int .i64 0, .string ⟨#[]⟩, .int .i64 0, .slice none 0 0] 40) (some (w.heap.size + 1))
    have hlt : qr < w.heap.size := World.block_lt_of_cell? w _ h.c0
    have hvb : 0 < b.length → ∀ r, v.ownBlock = some r → r < w.heap.size := fun hb r e => own_lt10 h.bs hb r e
    refine ⟨(h.grown hg1 (by omega) (fun hb e => by have := hvb hb _ e; omega)).grown hg2 (by omega) (fun hb e => by have := hvb hb _ e; omega), ?_, ?_, World.ownsRow_nil _ _ _ _, by omega, by omega, by omega, hlt, hvb, ?_⟩
    · have e := Cb.made (w.alloc (.cells #[.int .i64 0, .int .i64 0, .int .i64 0, .int .i64 0, .int .i64 0, .int .i64 0, .int .i64 0, .string ⟨#[]⟩, .int .i64 0, .slice none 0 0] 40)) [.int .i64 0, .int .i64 0, .int .i64 0, .int .i64 0, .int .i64 0, .int .i64 0, .int .i64 0, .string ⟨#[]⟩, .int .i64 0, .slice none 0 0] 40
      rw [World.size_alloc, ← hqn] at e
      exact e
    · rw [hqz]
      exact (Cb.made w [.int .i64 0, .int .i64 0, .int .i64 0, .int .i64 0, .int .i64 0, .int .i64 0, .int .i64 0, .string ⟨#[]⟩, .int .i64 0, .slice none 0 0] 40).keep (hg2.block _ (by simp) (by simp))
    · exact grown_on (grown_on ⟨rfl, rfl, rfl, Nat.le_refl _, fun _ _ _ => rfl⟩ hg1 (Or.inr (Nat.le_refl _))) hg2 (Or.inr (by omega))
  clear h
  unfold dptr
  go_enter Try.func25, Try.ntmps25
  go_wp2_with fail
  rw [← hqn, ← hqz]
  clear hqn hqz
  generalize ((w.alloc (.cells #[.int .i64 0, .int .i64 0, .int .i64 0, .int .i64 0, .int .i64 0, .int .i64 0, .int .i64 0, .string ⟨#[]⟩, .int .i64 0, .slice none 0 0] 40)).alloc (.cells #[.int .i64 0, .int .i64 0, .int .i64 0, .int .i64 0, .int .i64 0, .int .i64 0, .int .i64 0, .string ⟨#[]⟩, .int .i64 0, .slice none 0 0] 40)) = s0 at *
  refine (Pw.fI64_any qr _ b ys bad _ HS0.out.rf).mono ?_
  rintro e r0 ⟨rfl, hr, hg⟩
  rw [← HE0.out.1]
  rw [← HE0.out.2.1, ← HE0.out.2.2] at hr
  have HR0 : Hid (GetS10 w r0 qz qn qr v b y0 b0 (⟨0, 0, 0, 0, 0, 0, 0, ⟨#[]⟩, 0, []⟩ : Kq.Kn) (.slice none 0 0)) := HS0.out.read hr hg
  clear hr hg
  have cj : r0.cell? ⟨qn, 0, none⟩ = some (.int .i64 0) := HR0.out.node.cell 0
  have fj := HR0.out.node.free 0
  go_wp2_with fail
  have HS1 : Hid (GetS10 w (r0.setCell ⟨qn, 0, none⟩ (.int .i64 z0)) qz qn qr v b y0 b0 (⟨z0, 0, 0, 0, 0, 0, 0, ⟨#[]⟩, 0, []⟩ : Kq.Kn) (.slice none 0 0)) := HR0.out.set 0 _ rfl rfl
  clear cj fj
  generalize r0.setCell ⟨qn, 0, none⟩ (.int .i64 z0) = s1 at *
  refine (Pw.fI64_any qr _ b y0 b0 _ HS1.out.rf).mono ?_
  rintro e r1 ⟨rfl, hr, hg⟩
  rw [← HE1.out.1]
  rw [← HE1.out.2.1, ← HE1.out.2.2] at hr
  have HR1 : Hid (GetS10 w r1 qz qn qr v b y1 b1 (⟨z0, 0, 0, 0, 0, 0, 0, ⟨#[]⟩, 0, []⟩ : Kq.Kn) (.slice none 0 0)) := HS1.out.read hr hg
  clear hr hg
  have cj : r1.cell? ⟨qn, 1, none⟩ = some (.int .i64 0) := HR1.out.node.cell 1
  have fj := HR1.out.node.free 1
  go_wp2_with fail
  have HS2 : Hid (GetS10 w (r1.setCell ⟨qn, 1, none⟩ (.int .i64 z1)) qz qn qr v b y1 b1 (⟨z0, z1, 0, 0, 0, 0, 0, ⟨#[]⟩, 0, []⟩ : Kq.Kn) (.slice none 0 0)) := HR1.out.set 1 _ rfl rfl
  clear cj fj
  generalize r1.setCell ⟨qn, 1, none⟩ (.int .i64 z1) = s2 at *
  refine (Pw.fCount_any qr 2147483647 _ b y1 b1 _ HS2.out.rf).mono ?_
  rintro e r2 ⟨rfl, hr, hg⟩
  rw [← HE2.out.1]
  rw [← HE2.out.2.1, ← HE2.out.2.2] at hr
  have HR2 : Hid (GetS10 w r2 qz qn qr v b y2 b2 (⟨z0, z1, 0, 0, 0, 0, 0, ⟨#[]⟩, 0, []⟩ : Kq.Kn) (.slice none 0 0)) := HS2.out.read hr hg
  clear hr hg
  have cj : r2.cell? ⟨qn, 2, none⟩ = some (.int .i64 0) := HR2.out.node.cell 2
  have fj := HR2.out.node.free 2
  go_wp2_with fail
  have HS3 : Hid (GetS10 w (r2.setCell ⟨qn, 2, none⟩ (.int .i64 z2)) qz qn qr v b y2 b2 (⟨z0, z1, z2, 0, 0, 0, 0, ⟨#[]⟩, 0, []⟩ : Kq.Kn) (.slice none 0 0)) := HR2.out.set 2 _ rfl rfl
  clear cj fj
  generalize r2.setCell ⟨qn, 2, none⟩ (.int .i64 z2) = s3 at *
  refine (Pw.fCount_any qr 2147483647 _ b y2 b2 _ HS3.out.rf).mono ?_
  rintro e r3 ⟨rfl, hr, hg⟩
  rw [← HE3.out.1]
  rw [← HE3.out.2.1, ← HE3.out.2.2] at hr
  have HR3 : Hid (GetS10 w r3 qz qn qr v b y3 b3 (⟨z0, z1, z2, 0, 0, 0, 0, ⟨#[]⟩, 0, []⟩ : Kq.Kn) (.slice none 0 0)) := HS3.out.read hr hg
  clear hr hg
  have cj : r3.cell? ⟨qn, 3, none⟩ = some (.int .i64 0) := HR3.out.node.cell 3
  have fj := HR3.out.node.free 3
  go_wp2_with fail
  have HS4 : Hid (GetS10 w (r3.setCell ⟨qn, 3, none⟩ (.int .i64 z3)) qz qn qr v b y3 b3 (⟨z0, z1, z2, z3, 0, 0, 0, ⟨#[]⟩, 0, []⟩ : Kq.Kn) (.slice none 0 0)) := HR3.out.set 3 _ rfl rfl
  clear cj fj
  generalize r3.setCell ⟨qn, 3, none⟩ (.int .i64 z3) = s4 at *
  refine (Pw.fI64_any qr _ b y3 b3 _ HS4.out.rf).mono ?_
  rintro e r4 ⟨rfl, hr, hg⟩
  rw [← HE4.out.1]
  rw [← HE4.out.2.1, ← HE4.out.2.2] at hr
  have HR4 : Hid (GetS10 w r4 qz qn qr v b y4 b4 (⟨z0, z1, z2, z3, 0, 0, 0, ⟨#[]⟩, 0, []⟩ : Kq.Kn) (.slice none 0 0)) := HS4.out.read hr hg
  clear hr hg
  have cj : r4.cell? ⟨qn, 4, none⟩ = some (.int .i64 0) := HR4.out.node.cell 4
  have fj := HR4.out.node.free 4
  go_wp2_with fail
  have HS5 : Hid (GetS10 w (r4.setCell ⟨qn, 4, none⟩ (.int .i64 z4)) qz qn qr v b y4 b4 (⟨z0, z1, z2, z3, z4, 0, 0, ⟨#[]⟩, 0, []⟩ : Kq.Kn) (.slice none 0 0)) := HR4.out.set 4 _ rfl rfl
  clear cj fj
  generalize r4.setCell ⟨qn, 4, none⟩ (.int .i64 z4) = s5 at *
  refine (Pw.fCount_any qr 2147483647 _ b y4 b4 _ HS5.out.rf).mono ?_
  rintro e r5 ⟨rfl, hr, hg⟩
  rw [← HE5.out.1]
  rw [← HE5.out.2.1, ← HE5.out.2.2] at hr
  have HR5 : Hid (GetS10 w r5 qz qn qr v b y5 b5 (⟨z0, z1, z2, z3, z4, 0, 0, ⟨#[]⟩, 0, []⟩ : Kq.Kn) (.slice none 0 0)) := HS5.out.read hr hg
  clear hr hg
  have cj : r5.cell? ⟨qn, 8, none⟩ = some (.int .i64 0) := HR5.out.node.cell 8
  have fj := HR5.out.node.free 8
  go_wp2_with fail
  have HS6 : Hid (GetS10 w (r5.setCell ⟨qn, 8, none⟩ (.int .i64 z5)) qz qn qr v b y5 b5 (⟨z0, z1, z2, z3, z4, 0, 0, ⟨#[]⟩, z5, []⟩ : Kq.Kn) (.slice none 0 0)) := HR5.out.set 8 _ rfl rfl
  clear cj fj
  generalize r5.setCell ⟨qn, 8, none⟩ (.int .i64 z5) = s6 at *
  refine (Pw.fText_any qr 1000 _ b y5 b5 _ HS6.out.rf).mono ?_
  rintro e r6 ⟨rfl, hr, hg⟩
  rw [← HE6.out.1.1]
  rw [← HE6.out.2.1, ← HE6.out.2.2] at hr
  have HR6 : Hid (GetS10 w r6 qz qn qr v b y6 b6 (⟨z0, z1, z2, z3, z4, 0, 0, ⟨#[]⟩, z5, []⟩ : Kq.Kn) (.slice none 0 0)) := HS6.out.read hr hg
  clear hr hg
  have cj : r6.cell? ⟨qn, 7, none⟩ = some (.string ⟨#[]⟩) := HR6.out.node.cell 7
  have fj := HR6.out.node.free 7
  go_wp2_with fail
  have HS7 : Hid (GetS10 w (r6.setCell ⟨qn, 7, none⟩ (.string z6)) qz qn qr v b y6 b6 (⟨z0, z1, z2, z3, z4, 0, 0, z6, z5, []⟩ : Kq.Kn) (.slice none 0 0)) := HR6.out.set 7 _ rfl rfl
  clear cj fj
  generalize r6.setCell ⟨qn, 7, none⟩ (.string z6) = s7 at *
  refine (Pw.fCount_any qr 500 _ b y6 b6 _ HS7.out.rf).mono ?_
  rintro e r7 ⟨rfl, hr, hg⟩
  rw [← HE7.out.1]
  rw [← HE7.out.2.1, ← HE7.out.2.2] at hr
  have HR7 : Hid (GetS10 w r7 qz qn qr v b y7 b7 (⟨z0, z1, z2, z3, z4, 0, 0, z6, z5, []⟩ : Kq.Kn) (.slice none 0 0)) := HS7.out.read hr hg
  clear hr hg
  go_wp2
  go_loopw [6] (fun i wr => ∃ (k : Nat) (ys' : List UInt8) (bad' : Bool) (u : Value) (l : List ByteArray), k ≤ K ∧ i = .int .i64 (k : Int) ∧ l.length = k ∧ GetS10 w wr qz qn qr v b ys' bad' (⟨z0, z1, z2, z3, z4, 0, 0, z6, z5, l⟩ : Kq.Kn) u ∧ Kq.rdNs K y7 b7 = (l ++ (Kq.rdNs (K - k) ys' bad').1, (Kq.rdNs (K - k) ys' bad').2)) (fun i _ => K + 1 - (intOf i).toNat)
  case atStart => exact ⟨0, y7, b7, .slice none 0 0, [], Nat.zero_le _, rfl, rfl, HR7.out, rfl⟩
  case round =>
    obtain ⟨k, ys', bad', u, l, hk, rfl, hlk, hgs, hrd⟩ := hrel
    have HG : Hid (GetS10 w wr qz qn qr v b ys' bad' (⟨z0, z1, z2, z3, z4, 0, 0, z6, z5, l⟩ : Kq.Kn) u) := hgs
    have HRD : Hid (l.length = k ∧ Kq.rdNs K y7 b7 = (l ++ (Kq.rdNs (K - k) ys' bad').1, (Kq.rdNs (K - k) ys' bad').2)) := ⟨hlk, hrd⟩
    obtain ⟨au, cu, hu, hrest⟩ := row_form hgs.own
    simp only [] at hu
    rw [hlk] at hu
    subst hu
    clear hgs hlk hrd hrest HR0 HR1 HR2 HR3 HR4 HR5 HR6 HR7 HS0 HS1 HS2 HS3 HS4 HS5 HS6 HS7
    have hc2 := HG.out.rf.c2
    by_cases hgo : k < K ∧ bad' = false
    · obtain ⟨hlt, hbad⟩ := hgo
      subst hbad
      have hlt' : (k : Int) < (K : Int) := by omega
      have hwk : IntKind.wrap .i64 ((k : Int) + 1) = (k : Int) + 1 := by rw [IntKind.wrap_i64]; omega
      go_wp2_with fail
      clear hc2
      refine wp_region_U (fun w' => w'.cell? ⟨qn, 9, none⟩ = some (.slice au k cu)) [7] (by kernel_rfl) ?_
      have HX : Hid (GetS10 w wr.drew qz qn qr v b ys' false (⟨z0, z1, z2, z3, z4, 0, 0, z6, z5, l⟩ : Kq.Kn) (.slice au k cu)) := HG.out.same (fun r => ⟨rfl, rfl, rfl, Nat.le_refl _, fun _ _ _ => rfl⟩)
      clear HG
      generalize wr.drew = wX at *
      have HC0 : Hid (wX.cell? ⟨qn, 9, none⟩ = some (.slice au k cu)) := HX.out.node.cell 9
      refine' take_U (i := 0) (d := 48) (v := _) rfl rfl (by kernel_rfl) (by kernel_rfl) (by kernel_rfl) (by kernel_rfl) (by kernel_rfl) (by kernel_rfl) (fun _ _ _ h => h) (Or.inl ⟨by rfl, ?h0⟩) (HC0.out) ?_
      case h0 => intro w hSw; go_simp; with_reducible rfl
      simp only [List.setIfInBounds_toArray, List.set_cons_zero, List.set_cons_succ]
      refine' take_U (i := 1) (d := 49) (v := _) rfl rfl (by kernel_rfl) (by kernel_rfl) (by kernel_rfl) (by kernel_rfl) (by kernel_rfl) (by kernel_rfl) (fun _ _ _ h => h) (Or.inl ⟨by rfl, ?h1⟩) (HC0.out) ?_
      case h1 => intro w hSw; go_simp; with_reducible rfl
      simp only [List.setIfInBounds_toArray, List.set_cons_zero, List.set_cons_succ]
      refine' take_U (i := 2) (d := 50) (v := _) rfl rfl (by kernel_rfl) (by kernel_rfl) (by kernel_rfl) (by kernel_rfl) (by kernel_rfl) (by kernel_rfl) (fun _ _ _ h => h) (Or.inl ⟨by rfl, ?h2⟩) (HC0.out) ?_
      case h2 => intro w hSw; go_simp; with_reducible rfl
      simp only [List.setIfInBounds_toArray, List.set_cons_zero, List.set_cons_succ]
      refine wpAnyU_ready (rs := [3]) (by kernel_rfl) (by simp) ?_
      refine AllReadyU.cons (o := _) rfl (fun KQ hK => ?_) AllReadyU.nil
      go_simp
      refine (Pw.fText_any qr 40 _ b ys' false _ HX.out.rf).mono ?_
      rintro e wA ⟨rfl, hr, hg⟩
      obtain ⟨x, hx⟩ : ∃ x : ByteArray, x = ⟨(Pk.rT 40 ys' false).1.toArray⟩ := ⟨_, rfl⟩
      obtain ⟨yA, hyA⟩ : ∃ y, y = (Pk.rT 40 ys' false).2.1 := ⟨_, rfl⟩
      obtain ⟨bA, hbA⟩ : ∃ y, y = (Pk.rT 40 ys' false).2.2 := ⟨_, rfl⟩
      have HT : Hid (x = ⟨(Pk.rT 40 ys' false).1.toArray⟩ ∧ yA = (Pk.rT 40 ys' false).2.1 ∧ bA = (Pk.rT 40 ys' false).2.2) := ⟨hx, hyA, hbA⟩
      rw [← hyA, ← hbA] at hr
      rw [← hx]
      clear hx hyA hbA
      have HA : Hid (GetS10 w wA qz qn qr v b yA bA (⟨z0, z1, z2, z3, z4, 0, 0, z6, z5, l⟩ : Kq.Kn) (.slice au k cu)) := HX.out.read hr hg
      clear hr hg
      simp only []
      refine hK.out _ _ (fun _ _ => HA.out.node.cell 9) ?_
      clear hK
      refine wpAnyU_ready (rs := [4]) (by kernel_rfl) (by simp) ?_
      refine AllReadyU.cons (o := _) rfl (fun KQ hK => ?_) AllReadyU.nil
      go_simp
      obtain ⟨qx, hqx⟩ : ∃ z, z = wA.heap.size := ⟨_, rfl⟩
      rw [← hqx]
      have HSx : Hid (Src (wA.alloc (.cells #[.string x] 9)) (.slice (some ⟨qx, 0, none⟩) 1 1) [x]) := by rw [hqx]; exact Src.one wA x _
      have HB : Hid (GetS10 w (wA.alloc (.cells #[.string x] 9)) qz qn qr v b yA bA (⟨z0, z1, z2, z3, z4, 0, 0, z6, z5, l⟩ : Kq.Kn) (.slice au k cu)) := HA.out.same (fun r => World.grownBy_alloc _ _ _)
      clear hqx
      generalize wA.alloc (.cells #[.string x] 9) = wB at *
      refine hK.out _ _ (fun _ _ => HB.out.node.cell 9) ?_
      clear hK
      refine wpAnyU_ready (rs := [5]) (by kernel_rfl) (by simp) ?_
      refine AllReadyU.cons (o := _) rfl (fun KQ hK => ?_) AllReadyU.nil
      refine wp_strs _ _ rfl w.heap.size (.slice au k cu) (.slice (some ⟨qx, 0, none⟩) 1 1) l [x] wB rfl rfl HB.out.own HB.out.gr.size HSx.out (by have h1 := HRD.out.1; simp only [List.length_singleton]; omega) ?_
      intro v42 wC ho hb hg
      have HQ4 : Hid (wC.cell? ⟨qn, 9, none⟩ = some (.slice au k cu) ∧ wC.frozen? ⟨qn, 9, none⟩ = false) := by
        have e : Cb wC qn (k10 (⟨z0, z1, z2, z3, z4, 0, 0, z6, z5, l⟩ : Kq.Kn) (.slice au k cu)) 40 := HB.out.node.keep (hg.block _ HB.out.node.lt (fun e => HB.out.node.apart HB.out.own (by decide) e.symm))
        exact ⟨e.cell 9, e.free 9⟩
      obtain ⟨a42, c42, hv42, hrest⟩ := row_form ho
      obtain ⟨n42, hn42⟩ : ∃ z, z = (l ++ [x]).length := ⟨_, rfl⟩
      rw [← hn42] at hv42
      subst hv42
      have HM : Hid (GetS10 w (wC.setCell ⟨qn, 9, none⟩ (.slice a42 n42 c42)) qz qn qr v b yA bA (⟨z0, z1, z2, z3, z4, 0, 0, z6, z5, l ++ [x]⟩ : Kq.Kn) (.slice a42 n42 c42)) := HB.out.more hg ho
      clear ho hb hg hn42 hrest
      go_simp
      refine hK.out _ _ (fun _ _ => HQ4.out.1) ?_
      clear hK
      refine' take_U (i := 6) (d := 54) (v := _) rfl rfl (by kernel_rfl) (by kernel_rfl) (by kernel_rfl) (by kernel_rfl) (by kernel_rfl) (by kernel_rfl) (fun _ _ _ h => h) (Or.inl ⟨by rfl, ?h6⟩) (HQ4.out.1) ?_
      case h6 => intro w hSw; go_simp; with_reducible rfl
      simp only [List.setIfInBounds_toArray, List.set_cons_zero, List.set_cons_succ]
      refine wpAnyU_ready (rs := [7]) (by kernel_rfl) (by simp) ?_
      refine AllReadyU.cons (o := _) rfl (fun KQ hK => ?_) AllReadyU.nil
      have hc := HQ4.out.1
      have hz := HQ4.out.2
      go_simp
      clear hc hz
      refine hK.out _ _ (fun h => absurd (by decide) h) ?_
      clear hK
      refine wpAnyU_done (by kernel_rfl) ?_ _
      generalize wC.setCell ⟨qn, 9, none⟩ (.slice a42 n42 c42) = wz at *
      have HRN : Hid ((l ++ [x]).length = k + 1 ∧ Kq.rdNs K y7 b7 = ((l ++ [x]) ++ (Kq.rdNs (K - (k + 1)) yA bA).1, (Kq.rdNs (K - (k + 1)) yA bA).2)) := by
        refine ⟨by rw [List.length_append, HRD.out.1]; rfl, ?_⟩
        have e : K - k = (K - (k + 1)) + 1 := by omega
        have h2 := HRD.out.2
        rw [e, Kq.rdNs, if_neg (by simp), ← HT.out.1, ← HT.out.2.1, ← HT.out.2.2] at h2
        rw [h2]
        simp
      clear HC0 HX HA HB HQ4 HSx
      go_wp2
      go_roundw
      case rel => exact ⟨k + 1, yA, bA, _, l ++ [x], by omega, by go_num, HRN.out.1, HM.out, HRN.out.2⟩
      case measure => simp [intOf]; omega
    · have HRAW : Hid (Kq.raw ys bad = (⟨z0, z1, z2, z3, z4, (z6.size : Int), (l.length : Int), z6, z5, l⟩, ys', bad')) := by
        have hfin : Kq.rdNs K y7 b7 = (l, ys', bad') := by
          rw [HRD.out.2]
          by_cases hb : bad' = true
          · rw [hb, rdNs_bad]
            simp
          · have e : K - k = 0 := by
              have : ¬ k < K := fun h => hgo ⟨h, by simpa using hb⟩
              omega
            rw [e, Kq.rdNs]
            simp
        have e : Kq.raw ys bad = (⟨z0, z1, z2, z3, z4, (z6.size : Int), (l.length : Int), z6, z5, l⟩, ys', bad') := by
          unfold Kq.raw
          simp only []
          rw [← HE0.out.1, ← HE0.out.2.1, ← HE0.out.2.2, ← HE1.out.1, ← HE1.out.2.1, ← HE1.out.2.2, ← HE2.out.1, ← HE2.out.2.1, ← HE2.out.2.2, ← HE3.out.1, ← HE3.out.2.1, ← HE3.out.2.2, ← HE4.out.1, ← HE4.out.2.1, ← HE4.out.2.2, ← HE5.out.1, ← HE5.out.2.1, ← HE5.out.2.2, ← HE6.out.1.1, ← HE6.out.1.2, ← HE6.out.2.1, ← HE6.out.2.2, ← HE7.out.1, ← HE7.out.2.1, ← HE7.out.2.2, Int.toNat_natCast, hfin]
        exact e
      cases bad' with
      | true =>
        clear hgo
        by_cases hlt : k < K
        · have hlt' : (k : Int) < (K : Int) := by omega
          have HNG : Hid (¬ Kq.Good ys bad) := fun hg => by
            have e := hg.1
            rw [HRAW.out] at e
            cases e
          obtain ⟨z0a, z1a, z2a, z3a, z4a, z5a, z6a, z7a, z8a, z9a⟩ := ten_cells HG.out.ans
          have f0 := HG.out.ans.free 0
          have f1 := HG.out.ans.free 1
          have f2 := HG.out.ans.free 2
          have f3 := HG.out.ans.free 3
          have f4 := HG.out.ans.free 4
          have f5 := HG.out.ans.free 5
          have f6 := HG.out.ans.free 6
          have f7 := HG.out.ans.free 7
          have f8 := HG.out.ans.free 8
          have f9 := HG.out.ans.free 9
          go_wp2_with fail
          have HX : Hid (Cb (put10 wr qz Kq.zero (.slice none 0 0)) qz (k10 Kq.zero (.slice none 0 0)) 40) := put10_cb HG.out.ans
          have HGR : Hid (w.grownBy (put10 wr qz Kq.zero (.slice none 0 0)) (some qr)) := grown_on HG.out.gr (put10_grown _ _ _ _) (Or.inr HG.out.hz)
          unfold put10 Kq.zero at HX HGR
          simp only [] at HX HGR
          generalize ((((((((((wr.setCell ⟨qz, 0, none⟩ (.int .i64 0)).setCell ⟨qz, 1, none⟩ (.int .i64 0)).setCell ⟨qz, 2, none⟩ (.int .i64 0)).setCell ⟨qz, 3, none⟩ (.int .i64 0)).setCell ⟨qz, 4, none⟩ (.int .i64 0)).setCell ⟨qz, 5, none⟩ (.int .i64 0)).setCell ⟨qz, 6, none⟩ (.int .i64 0)).setCell ⟨qz, 7, none⟩ (.string ⟨#[]⟩)).setCell ⟨qz, 8, none⟩ (.int .i64 0)).setCell ⟨qz, 9, none⟩ (.slice none 0 0)) = wy at *
          clear z0a z1a z2a z3a z4a z5a z6a z7a z8a z9a f0 f1 f2 f3 f4 f5 f6 f7 f8 f9
          refine bodyPost_ret (v := .tuple #[.agg #[.int .i64 0, .int .i64 0, .int .i64 0, .int .i64 0, .int .i64 0, .int .i64 0, .int .i64 0, .string ⟨#[]⟩, .int .i64 0, .slice none 0 0], .bool false]) ?_ rfl ⟨fun hg => absurd hg HNG.out, fun _ => rfl, HGR.out⟩
          obtain ⟨c0, c1, c2, c3, c4, c5, c6, c7, c8, c9⟩ := ten_cells HX.out
          simp only [] at c0 c1 c2 c3 c4 c5 c6 c7 c8 c9
          rw [results_cell_tmp rfl]
          go_simp
        · have hlt' : ¬ (k : Int) < (K : Int) := by omega
          have HNG : Hid (¬ Kq.Good ys bad) := fun hg => by
            have e := hg.1
            rw [HRAW.out] at e
            cases e
          obtain ⟨z0a, z1a, z2a, z3a, z4a, z5a, z6a, z7a, z8a, z9a⟩ := ten_cells HG.out.ans
          have f0 := HG.out.ans.free 0
          have f1 := HG.out.ans.free 1
          have f2 := HG.out.ans.free 2
          have f3 := HG.out.ans.free 3
          have f4 := HG.out.ans.free 4
          have f5 := HG.out.ans.free 5
          have f6 := HG.out.ans.free 6
          have f7 := HG.out.ans.free 7
          have f8 := HG.out.ans.free 8
          have f9 := HG.out.ans.free 9
          go_wp2_with fail
          have HX : Hid (Cb (put10 wr qz Kq.zero (.slice none 0 0)) qz (k10 Kq.zero (.slice none 0 0)) 40) := put10_cb HG.out.ans
          have HGR : Hid (w.grownBy (put10 wr qz Kq.zero (.slice none 0 0)) (some qr)) := grown_on HG.out.gr (put10_grown _ _ _ _) (Or.inr HG.out.hz)
          unfold put10 Kq.zero at HX HGR
          simp only [] at HX HGR
          generalize ((((((((((wr.setCell ⟨qz, 0, none⟩ (.int .i64 0)).setCell ⟨qz, 1, none⟩ (.int .i64 0)).setCell ⟨qz, 2, none⟩ (.int .i64 0)).setCell ⟨qz, 3, none⟩ (.int .i64 0)).setCell ⟨qz, 4, none⟩ (.int .i64 0)).setCell ⟨qz, 5, none⟩ (.int .i64 0)).setCell ⟨qz, 6, none⟩ (.int .i64 0)).setCell ⟨qz, 7, none⟩ (.string ⟨#[]⟩)).setCell ⟨qz, 8, none⟩ (.int .i64 0)).setCell ⟨qz, 9, none⟩ (.slice none 0 0)) = wy at *
          clear z0a z1a z2a z3a z4a z5a z6a z7a z8a z9a f0 f1 f2 f3 f4 f5 f6 f7 f8 f9
          refine bodyPost_ret (v := .tuple #[.agg #[.int .i64 0, .int .i64 0, .int .i64 0, .int .i64 0, .int .i64 0, .int .i64 0, .int .i64 0, .string ⟨#[]⟩, .int .i64 0, .slice none 0 0], .bool false]) ?_ rfl ⟨fun hg => absurd hg HNG.out, fun _ => rfl, HGR.out⟩
          obtain ⟨c0, c1, c2, c3, c4, c5, c6, c7, c8, c9⟩ := ten_cells HX.out
          simp only [] at c0 c1 c2 c3 c4 c5 c6 c7 c8 c9
          rw [results_cell_tmp rfl]
          go_simp
      | false =>
        have hlt : ¬ k < K := fun h => hgo ⟨h, rfl⟩
        clear hgo
        have hlt' : ¬ (k : Int) < (K : Int) := by omega
        have c9 : wr.cell? ⟨qn, 9, none⟩ = some (.slice au k cu) := HG.out.node.cell 9
        go_wp2_with fail
        refine (rising_any (.slice au k cu) l _ HG.out.names.ss (by have := HRD.out.1; omega)).mono ?_
        rintro e wR ⟨r, rfl, hr, hb⟩
        have HH : Hid (GetS10 w wR qz qn qr v b ys' false (⟨z0, z1, z2, z3, z4, 0, 0, z6, z5, l⟩ : Kq.Kn) (.slice au k cu)) := HG.out.same (fun r => ⟨hb.os, hb.tape, hb.output, hb.size, fun k hk _ => hb.block k hk⟩)
        have HRI : Hid (r = true ↔ Kq.Rises l) := hr
        clear hr hb c9 hc2
        obtain ⟨z0a, z1a, z2a, z3a, z4a, z5a, z6a, z7a, z8a, z9a⟩ := ten_cells HH.out.ans
        have f0 := HH.out.ans.free 0
        have f1 := HH.out.ans.free 1
        have f2 := HH.out.ans.free 2
        have f3 := HH.out.ans.free 3
        have f4 := HH.out.ans.free 4
        have f5 := HH.out.ans.free 5
        have f6 := HH.out.ans.free 6
        have f7 := HH.out.ans.free 7
        have f8 := HH.out.ans.free 8
        have f9 := HH.out.ans.free 9
        cases r with
        | false =>
          have HNG : Hid (¬ Kq.Good ys bad) := fun hg => by
            have e := hg.2
            rw [HRAW.out] at e
            have := HRI.out.2 e
            cases this
          go_wp2_with fail
          have HX : Hid (Cb (put10 wR qz Kq.zero (.slice none 0 0)) qz (k10 Kq.zero (.slice none 0 0)) 40) := put10_cb HH.out.ans
          have HGR : Hid (w.grownBy (put10 wR qz Kq.zero (.slice none 0 0)) (some qr)) := grown_on HH.out.gr (put10_grown _ _ _ _) (Or.inr HH.out.hz)
          unfold put10 Kq.zero at HX HGR
          simp only [] at HX HGR
          generalize ((((((((((wR.setCell ⟨qz, 0, none⟩ (.int .i64 0)).setCell ⟨qz, 1, none⟩ (.int .i64 0)).setCell ⟨qz, 2, none⟩ (.int .i64 0)).setCell ⟨qz, 3, none⟩ (.int .i64 0)).setCell ⟨qz, 4, none⟩ (.int .i64 0)).setCell ⟨qz, 5, none⟩ (.int .i64 0)).setCell ⟨qz, 6, none⟩ (.int .i64 0)).setCell ⟨qz, 7, none⟩ (.string ⟨#[]⟩)).setCell ⟨qz, 8, none⟩ (.int .i64 0)).setCell ⟨qz, 9, none⟩ (.slice none 0 0)) = wy at *
          clear z0a z1a z2a z3a z4a z5a z6a z7a z8a z9a f0 f1 f2 f3 f4 f5 f6 f7 f8 f9
          refine bodyPost_ret (v := .tuple #[.agg #[.int .i64 0, .int .i64 0, .int .i64 0, .int .i64 0, .int .i64 0, .int .i64 0, .int .i64 0, .string ⟨#[]⟩, .int .i64 0, .slice none 0 0], .bool false]) ?_ rfl ⟨fun hg => absurd hg HNG.out, fun _ => rfl, HGR.out⟩
          obtain ⟨c0, c1, c2, c3, c4, c5, c6, c7, c8, c9⟩ := ten_cells HX.out
          simp only [] at c0 c1 c2 c3 c4 c5 c6 c7 c8 c9
          rw [results_cell_tmp rfl]
          go_simp
        | true =>
          obtain ⟨c0, c1, c2, c3, c4, c5, c6, c7, c8, c9⟩ := ten_cells HH.out.node
          simp only [] at c0 c1 c2 c3 c4 c5 c6 c7 c8 c9
          have e5 := HH.out.node.free 5
          have hne1 : ¬ qn = qz := HH.out.ne
          have hne2 : ¬ qz = qn := fun e => HH.out.ne e.symm
          have e6 := HH.out.node.free 6
          go_wp2_with fail
          clear c0 c1 c2 c3 c4 c5 c6 c7 c8 c9 e5 e6 hne1 hne2
          have HJ : Hid (GetS10 w ((wR.setCell ⟨qn, 5, none⟩ (.int .i64 (z6.size : Int))).setCell ⟨qn, 6, none⟩ (.int .i64 (k : Int))) qz qn qr v b ys' false (⟨z0, z1, z2, z3, z4, (z6.size : Int), (k : Int), z6, z5, l⟩ : Kq.Kn) (.slice au k cu)) := (HH.out.set (n' := (⟨z0, z1, z2, z3, z4, (z6.size : Int), 0, z6, z5, l⟩ : Kq.Kn)) 5 _ rfl rfl).set 6 _ rfl rfl
          have HX : Hid (Cb (put10 ((wR.setCell ⟨qn, 5, none⟩ (.int .i64 (z6.size : Int))).setCell ⟨qn, 6, none⟩ (.int .i64 (k : Int))) qz (⟨z0, z1, z2, z3, z4, (z6.size : Int), (k : Int), z6, z5, l⟩ : Kq.Kn) (.slice au k cu)) qz (k10 (⟨z0, z1, z2, z3, z4, (z6.size : Int), (k : Int), z6, z5, l⟩ : Kq.Kn) (.slice au k cu)) 40) := put10_cb HJ.out.ans
          have hpg := put10_grown ((wR.setCell ⟨qn, 5, none⟩ (.int .i64 (z6.size : Int))).setCell ⟨qn, 6, none⟩ (.int .i64 (k : Int))) qz (⟨z0, z1, z2, z3, z4, (z6.size : Int), (k : Int), z6, z5, l⟩ : Kq.Kn) (.slice au k cu)
          have HGR : Hid (w.grownBy (put10 ((wR.setCell ⟨qn, 5, none⟩ (.int .i64 (z6.size : Int))).setCell ⟨qn, 6, none⟩ (.int .i64 (k : Int))) qz (⟨z0, z1, z2, z3, z4, (z6.size : Int), (k : Int), z6, z5, l⟩ : Kq.Kn) (.slice au k cu)) (some qr) ∧ Nm (put10 ((wR.setCell ⟨qn, 5, none⟩ (.int .i64 (z6.size : Int))).setCell ⟨qn, 6, none⟩ (.int .i64 (k : Int))) qz (⟨z0, z1, z2, z3, z4, (z6.size : Int), (k : Int), z6, z5, l⟩ : Kq.Kn) (.slice au k cu)) (.slice au k cu) l ∧ Pw.Rf (put10 ((wR.setCell ⟨qn, 5, none⟩ (.int .i64 (z6.size : Int))).setCell ⟨qn, 6, none⟩ (.int .i64 (k : Int))) qz (⟨z0, z1, z2, z3, z4, (z6.size : Int), (k : Int), z6, z5, l⟩ : Kq.Kn) (.slice au k cu)) qr v b ys' false) := by
            refine ⟨grown_on HJ.out.gr hpg (Or.inr HJ.out.hz), Nm.of_row (row_stays HJ.out.own (fun x hx => hpg.block x (HJ.out.own.lt x hx).2 (fun e => HJ.out.ans.apart HJ.out.own (by decide) (by rw [hx]; exact e)))), HJ.out.rf.grown hpg (by have h1 := HJ.out.hr; have h2 := HJ.out.hz; omega) (fun hb e => by have h1 := HJ.out.vb hb _ e; have h2 := HJ.out.hz; omega)⟩
          clear hpg
          unfold put10 at HX HGR
          simp only [] at HX HGR
          generalize ((((((((((((wR.setCell ⟨qn, 5, none⟩ (.int .i64 (z6.size : Int))).setCell ⟨qn, 6, none⟩ (.int .i64 (k : Int))).setCell ⟨qz, 0, none⟩ (.int .i64 z0)).setCell ⟨qz, 1, none⟩ (.int .i64 z1)).setCell ⟨qz, 2, none⟩ (.int .i64 z2)).setCell ⟨qz, 3, none⟩ (.int .i64 z3)).setCell ⟨qz, 4, none⟩ (.int .i64 z4)).setCell ⟨qz, 5, none⟩ (.int .i64 (z6.size : Int))).setCell ⟨qz, 6, none⟩ (.int .i64 (k : Int))).setCell ⟨qz, 7, none⟩ (.string z6)).setCell ⟨qz, 8, none⟩ (.int .i64 z5)).setCell ⟨qz, 9, none⟩ (.slice au k cu)) = wy at *
          clear z0a z1a z2a z3a z4a z5a z6a z7a z8a z9a f0 f1 f2 f3 f4 f5 f6 f7 f8 f9
          refine bodyPost_ret (v := .tuple #[.agg #[.int .i64 z0, .int .i64 z1, .int .i64 z2, .int .i64 z3, .int .i64 z4, .int .i64 (z6.size : Int), .int .i64 (k : Int), .string z6, .int .i64 z5, .slice au k cu], .bool true]) ?_ rfl ⟨fun _ => ⟨au, k, cu, ?_, ?_, ?_⟩, fun hg => absurd ⟨by rw [HRAW.out], by rw [HRAW.out]; exact HRI.out.1 (by simp)⟩ hg, HGR.out.1⟩
          · obtain ⟨c0, c1, c2, c3, c4, c5, c6, c7, c8, c9⟩ := ten_cells HX.out
            simp only [] at c0 c1 c2 c3 c4 c5 c6 c7 c8 c9
            rw [results_cell_tmp rfl]
            go_simp
          · rw [HRAW.out, HRD.out.1]
            rfl
          · rw [HRAW.out]
            exact HGR.out.2.1
          · rw [HRAW.out]
            exact HGR.out.2.2
end Go.Proofs.Ytlgpjgncimcijaa
