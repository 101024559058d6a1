/- What the landed stat.Get answers. -/
import Derived.Test.YtpidafpaffpnaaaGreatDoorWSame10
import Derived.Test.YtpidafpaffpnaaaGreatDoorBas
namespace Go.Proofs.YtpidafpaffpnaaaGreatDoor.Kq
/-- So many names are read, whatever comes. -/
def rdN2 : Nat → List UInt8 → Bool → List ByteArray × List UInt8 × Bool
  | 0, ys, bad => ([], ys, bad)
  | k + 1, ys, bad => (⟨(Pk.rT 40 ys bad).1.toArray⟩ :: (rdN2 k (Pk.rT 40 ys bad).2.1 (Pk.rT 40 ys bad).2.2).1, (rdN2 k (Pk.rT 40 ys bad).2.1 (Pk.rT 40 ys bad).2.2).2)
theorem rI_sad (ys : List UInt8) : (Pk.rI ys true).2.2 = true := by
  unfold Pk.rI
  split <;> rfl
theorem rC_sad (m : Int) (ys : List UInt8) : (Pk.rC m ys true).2.2 = true := by
  unfold Pk.rC
  split
  · rfl
  · exact rI_sad ys
theorem rT_sad (m : Int) (ys : List UInt8) : (Pk.rT m ys true).2.2 = true := by
  unfold Pk.rT
  split
  · exact rC_sad m ys
  · rfl
theorem rdN2_sad : ∀ (k : Nat) (ys : List UInt8), (rdN2 k ys true).2.2 = true
  | 0, _ => rfl
  | k + 1, ys => by
    show (rdN2 k (Pk.rT 40 ys true).2.1 (Pk.rT 40 ys true).2.2).2.2 = true
    rw [rT_sad]
    exact rdN2_sad k _
theorem rdN2_eq : ∀ (k : Nat) (ys : List UInt8) (bad : Bool), (rdN2 k ys bad).2.2 = (rdNs k ys bad).2.2 ∧ ((rdN2 k ys bad).2.2 = false → rdNs k ys bad = rdN2 k ys bad)
  | 0, _, _ => ⟨rfl, fun _ => rfl⟩
  | k + 1, ys, true => by
    have h := rdN2_sad (k + 1) ys
    refine ⟨?_, fun e => by rw [h] at e; cases e⟩
    rw [h, rdNs, if_pos rfl]
  | k + 1, ys, false => by
    have h := rdN2_eq k (Pk.rT 40 ys false).2.1 (Pk.rT 40 ys false).2.2
    rw [rdNs, if_neg (by simp), rdN2]
    refine ⟨h.1, fun e => ?_⟩
    rw [h.2 e]
theorem rdN2_step {K k : Nat} {y7 ys : List UInt8} {b7 bad : Bool} {l : List ByteArray} (hlt : k < K) (h : rdN2 K y7 b7 = (l ++ (rdN2 (K - k) ys bad).1, (rdN2 (K - k) ys bad).2)) :
    rdN2 K y7 b7 = ((l ++ [⟨(Pk.rT 40 ys bad).1.toArray⟩]) ++ (rdN2 (K - (k + 1)) (Pk.rT 40 ys bad).2.1 (Pk.rT 40 ys bad).2.2).1, (rdN2 (K - (k + 1)) (Pk.rT 40 ys bad).2.1 (Pk.rT 40 ys bad).2.2).2) := by
  have e : K - k = (K - (k + 1)) + 1 := by omega
  rw [e, rdN2] at h
  rw [h]
  simp
end Go.Proofs.YtpidafpaffpnaaaGreatDoor.Kq
namespace Go.Proofs.YtpidafpaffpnaaaGreatDoor
open Go.RowKit

theorem rC_in10 (m : Int) (ys : List UInt8) (bad : Bool) (hm : 0 ≤ m) : 0 ≤ (Pk.rC m ys bad).1 ∧ (Pk.rC m ys bad).1 ≤ m := by
  unfold Pk.rC
  split <;> simp_all <;> omega
theorem grown_on10 {w w1 w2 : World} {q r : Nat} (h : w.grownBy w1 (some q)) (h2 : w1.grownBy w2 (some r)) (hr : r = q ∨ w.heap.size ≤ r) : w.grownBy w2 (some q) :=
  ⟨h2.os.trans h.os, h2.tape.trans h.tape, h2.output.trans h.output, Nat.le_trans h.size h2.size, fun k hk hq => (h2.block k (Nat.lt_of_lt_of_le hk h.size) (fun e => by
    rcases hr with h | h
    · exact hq (by rw [← h]; exact e)
    · simp only [Option.some.injEq] at e
      omega)).trans (h.block k hk hq)⟩

/-- The Reader at qr, the node at qn, the answer's place at qz. -/
structure GetW10 (B : Nat) (w wr : World) (qz qn qr : Nat) (ys : List UInt8) (bad : Bool) (n : Kq.Kn) (u : Value) : Prop where
  rd : Pw.Rd B wr qr ys bad
  node : Cb wr qn (k10 n u) 38
  ans : Cb wr qz (k10 Kq.zero (.slice none 0 0)) 38
  own : wr.ownsRow w.heap.size 9 1 u n.names.length (sc n.names)
  hz : w.heap.size ≤ qz
  hn : w.heap.size ≤ qn
  ne : qn ≠ qz
  hr : qr < w.heap.size
  gr : w.grownBy wr (some qr)
section
variable {B : Nat} {w wr w' : World} {qz qn qr : Nat} {u : Value} {ys ys' : List UInt8} {bad bad' : Bool} {n n' : Kq.Kn}
theorem GetW10.read (h : GetW10 B w wr qz qn qr ys bad n u) (hr : Pw.Rd B w' qr ys' bad') (hg : wr.grownBy w' (some qr)) : GetW10 B w w' qz qn qr ys' bad' n u := by
  have h1 := h.hr
  have h2 := h.hz
  have h3 := h.hn
  exact ⟨hr, h.node.keep (hg.block _ h.node.lt (fun e => by simp at e; omega)), h.ans.keep (hg.block _ h.ans.lt (fun e => by simp at e; omega)), row_stays h.own (fun k hk => hg.block k (h.own.lt k hk).2 (fun e => by have := (h.own.lt k hk).1; simp at e; omega)), h2, h3, h.ne, h1, grown_on10 h.gr hg (Or.inl rfl)⟩
theorem GetW10.same (h : GetW10 B w wr qz qn qr ys bad n u) (hb : Below wr.heap.size wr w') : GetW10 B w w' qz qn qr ys bad n u := h.read (h.rd.below hb) (grownBy_below hb)
theorem GetW10.set (h : GetW10 B w wr qz qn qr ys bad n u) (i : Nat) (x : Value) (hk : (k10 n u).set i x = k10 n' u) (hn : n'.names = n.names) : GetW10 B w (wr.setCell ⟨qn, i, none⟩ x) qz qn qr ys bad n' u := by
  have h1 := h.hr
  have h2 := h.hz
  have h3 := h.hn
  have hg := grownBy_setCell wr ⟨qn, i, none⟩ x
  refine ⟨h.rd.grown hg (by show qr < qn; omega), hk ▸ h.node.set i x, h.ans.keep (RowKit.Below.heap_setCell _ _ _ _ (fun e => h.ne e.symm)), ?_, h2, h3, h.ne, h1, grown_on10 h.gr hg (Or.inr h3)⟩
  rw [hn]
  exact row_stays h.own (fun k hk2 => RowKit.Below.heap_setCell _ _ _ _ (fun e => h.node.apart h.own (by decide) (by rw [hk2]; exact congrArg some e)))
theorem GetW10.more {u' : Value} {l : List ByteArray} (h : GetW10 B w wr qz qn qr ys bad n u) (hg : wr.grownBy w' u.ownBlock) (ho : w'.ownsRow w.heap.size 9 1 u' l.length (sc l)) : GetW10 B w (w'.setCell ⟨qn, 9, none⟩ u') qz qn qr ys bad { n with names := l } u' := by
  have h1 := h.hr
  have h2 := h.hz
  have h3 := h.hn
  have hne := h.node.apart h.own (by decide)
  have hnz := h.ans.apart h.own (by decide)
  have hs := grownBy_setCell w' ⟨qn, 9, none⟩ u'
  have hnode : Cb w' qn (k10 n u) 38 := h.node.keep (hg.block _ h.node.lt (fun e => hne e.symm))
  have hub : ∀ k, u.ownBlock = some k → w.heap.size ≤ k := fun k hk => (h.own.lt k hk).1
  have hrd : Pw.Rd B w' qr ys bad := by
    cases hu : u.ownBlock with
    | none =>
      rw [hu] at hg
      exact h.rd.grown (r := w'.heap.size + wr.heap.size + qr + 1 + w.heap.size) ⟨hg.os, hg.tape, hg.output, hg.size, fun k hk _ => hg.block k hk (by simp)⟩ (by omega)
    | some k =>
      rw [hu] at hg
      have := hub k hu
      exact h.rd.grown hg (by omega)
  refine ⟨hrd.grown hs (by show qr < qn; omega), hnode.set 9 u', (h.ans.keep (hg.block _ h.ans.lt (fun e => hnz e.symm))).keep (RowKit.Below.heap_setCell _ _ _ _ (fun e => h.ne e.symm)), row_stays ho (fun k hk2 => RowKit.Below.heap_setCell _ _ _ _ (fun e => hnode.apart ho (by decide) (by rw [hk2]; exact congrArg some e))), h2, h3, h.ne, h1, ?_⟩
  refine ⟨hs.os.trans (hg.os.trans h.gr.os), hs.tape.trans (hg.tape.trans h.gr.tape), hs.output.trans (hg.output.trans h.gr.output), Nat.le_trans h.gr.size (Nat.le_trans hg.size hs.size), fun k hk hq => ?_⟩
  rw [RowKit.Below.heap_setCell _ _ _ _ (by show k ≠ qn; omega), hg.block k (Nat.lt_of_lt_of_le hk h.gr.size) (fun e => by have := hub k e.symm; omega)]
  exact h.gr.block k hk hq
end

set_option linter.unusedSimpArgs false in
set_option maxRecDepth 20000 in
set_option maxHeartbeats 16000000 in
theorem get_any10 (B qr : Nat) (ys : List UInt8) (bad : Bool) (w : World) (h : Pw.Rd B w qr ys bad) :
    Calls Tryz.prog 140 #[dptr qr] w (GetPost10 B w qr ys bad) := by
  obtain ⟨z0, hz0⟩ : ∃ z, z = (Pk.rI ys bad).1 := ⟨_, rfl⟩
  obtain ⟨y0, hy0⟩ : ∃ z, z = (Pk.rI ys bad).2.1 := ⟨_, rfl⟩
  obtain ⟨b0, hb0⟩ : ∃ z, z = (Pk.rI ys bad).2.2 := ⟨_, rfl⟩
  have HE0 : Hid (z0 = (Pk.rI ys bad).1 ∧ y0 = (Pk.rI ys bad).2.1 ∧ b0 = (Pk.rI ys bad).2.2) := ⟨hz0, hy0, hb0⟩
  clear hz0 hy0 hb0
  obtain ⟨z1, hz1⟩ : ∃ z, z = (Pk.rI y0 b0).1 := ⟨_, rfl⟩
  obtain ⟨y1, hy1⟩ : ∃ z, z = (Pk.rI y0 b0).2.1 := ⟨_, rfl⟩
  obtain ⟨b1, hb1⟩ : ∃ z, z = (Pk.rI y0 b0).2.2 := ⟨_, rfl⟩
  have HE1 : Hid (z1 = (Pk.rI y0 b0).1 ∧ y1 = (Pk.rI y0 b0).2.1 ∧ b1 = (Pk.rI y0 b0).2.2) := ⟨hz1, hy1, hb1⟩
  clear hz1 hy1 hb1
  obtain ⟨z2, hz2⟩ : ∃ z, z = (Pk.rC 2147483647 y1 b1).1 := ⟨_, rfl⟩
  obtain ⟨y2, hy2⟩ : ∃ z, z = (Pk.rC 2147483647 y1 b1).2.1 := ⟨_, rfl⟩
  obtain ⟨b2, hb2⟩ : ∃ z, z = (Pk.rC 2147483647 y1 b1).2.2 := ⟨_, rfl⟩
  have HE2 : Hid (z2 = (Pk.rC 2147483647 y1 b1).1 ∧ y2 = (Pk.rC 2147483647 y1 b1).2.1 ∧ b2 = (Pk.rC 2147483647 y1 b1).2.2) := ⟨hz2, hy2, hb2⟩
  clear hz2 hy2 hb2
  obtain ⟨z3, hz3⟩ : ∃ z, z = (Pk.rC 2147483647 y2 b2).1 := ⟨_, rfl⟩
  obtain ⟨y3, hy3⟩ : ∃ z, z = (Pk.rC 2147483647 y2 b2).2.1 := ⟨_, rfl⟩
  obtain ⟨b3, hb3⟩ : ∃ z, z = (Pk.rC 2147483647 y2 b2).2.2 := ⟨_, rfl⟩
  have HE3 : Hid (z3 = (Pk.rC 2147483647 y2 b2).1 ∧ y3 = (Pk.rC 2147483647 y2 b2).2.1 ∧ b3 = (Pk.rC 2147483647 y2 b2).2.2) := ⟨hz3, hy3, hb3⟩
  clear hz3 hy3 hb3
  obtain ⟨z4, hz4⟩ : ∃ z, z = (Pk.rI y3 b3).1 := ⟨_, rfl⟩
  obtain ⟨y4, hy4⟩ : ∃ z, z = (Pk.rI y3 b3).2.1 := ⟨_, rfl⟩
  obtain ⟨b4, hb4⟩ : ∃ z, z = (Pk.rI y3 b3).2.2 := ⟨_, rfl⟩
  have HE4 : Hid (z4 = (Pk.rI y3 b3).1 ∧ y4 = (Pk.rI y3 b3).2.1 ∧ b4 = (Pk.rI y3 b3).2.2) := ⟨hz4, hy4, hb4⟩
  clear hz4 hy4 hb4
  obtain ⟨z5, hz5⟩ : ∃ z, z = (Pk.rC 2147483647 y4 b4).1 := ⟨_, rfl⟩
  obtain ⟨y5, hy5⟩ : ∃ z, z = (Pk.rC 2147483647 y4 b4).2.1 := ⟨_, rfl⟩
  obtain ⟨b5, hb5⟩ : ∃ z, z = (Pk.rC 2147483647 y4 b4).2.2 := ⟨_, rfl⟩
  have HE5 : Hid (z5 = (Pk.rC 2147483647 y4 b4).1 ∧ y5 = (Pk.rC 2147483647 y4 b4).2.1 ∧ b5 = (Pk.rC 2147483647 y4 b4).2.2) := ⟨hz5, hy5, hb5⟩
  clear hz5 hy5 hb5
  obtain ⟨t6, ht6⟩ : ∃ z, z = (Pk.rT 1000 y5 b5).1 := ⟨_, rfl⟩
  obtain ⟨z6, hz6⟩ : ∃ z : ByteArray, z = ⟨t6.toArray⟩ := ⟨_, rfl⟩
  obtain ⟨y6, hy6⟩ : ∃ z, z = (Pk.rT 1000 y5 b5).2.1 := ⟨_, rfl⟩
  obtain ⟨b6, hb6⟩ : ∃ z, z = (Pk.rT 1000 y5 b5).2.2 := ⟨_, rfl⟩
  have HE6 : Hid ((z6 = ⟨(Pk.rT 1000 y5 b5).1.toArray⟩ ∧ z6.size = (Pk.rT 1000 y5 b5).1.length) ∧ y6 = (Pk.rT 1000 y5 b5).2.1 ∧ b6 = (Pk.rT 1000 y5 b5).2.2) := ⟨⟨by rw [hz6, ht6], by rw [hz6, ht6]; rfl⟩, hy6, hb6⟩
  clear hz6 ht6 hy6 hb6
  obtain ⟨K, hK⟩ : ∃ c : Nat, (c : Int) = (Pk.rC 500 y6 b6).1 ∧ c ≤ 500 := ⟨(Pk.rC 500 y6 b6).1.toNat, by have := rC_in10 500 y6 b6 (by decide); omega, by have := rC_in10 500 y6 b6 (by decide); omega⟩
  obtain ⟨y7, hy7⟩ : ∃ z, z = (Pk.rC 500 y6 b6).2.1 := ⟨_, rfl⟩
  obtain ⟨b7, hb7⟩ : ∃ z, z = (Pk.rC 500 y6 b6).2.2 := ⟨_, rfl⟩
  have HE7 : Hid (((K : Int) = (Pk.rC 500 y6 b6).1) ∧ y7 = (Pk.rC 500 y6 b6).2.1 ∧ b7 = (Pk.rC 500 y6 b6).2.2) := ⟨hK.1, hy7, hb7⟩
  have hK5 : K ≤ 500 := hK.2
  clear hK hy7 hb7
  obtain ⟨qz, hqz⟩ : ∃ z, z = w.heap.size := ⟨_, rfl⟩
  obtain ⟨qn, hqn⟩ : ∃ z, z = w.heap.size + 1 := ⟨_, rfl⟩
  have HS0 : Hid (GetW10 B w ((w.alloc (.cells #[.int .i64 0, .int .i64 0, .int .i64 0, .int .i64 0, .int .i64 0, .int .i64 0, .int .i64 0, .string ⟨#[]⟩, .int .i64 0, .slice none 0 0] 38)).alloc (.cells #[.int .i64 0, .int .i64 0, .int .i64 0, .int .i64 0, .int .i64 0, .int .i64 0, .int .i64 0, .string ⟨#[]⟩, .int .i64 0, .slice none 0 0] 38)) qz qn qr ys bad (⟨0, 0, 0, 0, 0, 0, 0, ⟨#[]⟩, 0, []⟩ : Kq.Kn) (.slice none 0 0)) := by
    have hg1 := World.grownBy_alloc w (.cells #[.int .i64 0, .int .i64 0, .int .i64 0, .int .i64 0, .int .i64 0, .int .i64 0, .int .i64 0, .string ⟨#[]⟩, .int .i64 0, .slice none 0 0] 38) (some w.heap.size)
    have hg2 := World.grownBy_alloc (w.alloc (.cells #[.int .i64 0, .int .i64 0, .int .i64 0, .int .i64 0, .int .i64 0, .int .i64 0, .int .i64 0, .string ⟨#[]⟩, .int .i64 0, .slice none 0 0] 38)) (.cells #[.int .i64 0, .int .i64 0, .int .i64 0, .int .i64 0, .int .i64 0, .int .i64 0, .int .i64 0, .string ⟨#[]⟩, .int .i64 0, .slice none 0 0] 38) (some (w.heap.size + 1))
    have hlt : qr < w.heap.size := h.lt
    refine ⟨(h.grown hg1 (by omega)).grown hg2 (by omega), ?_, ?_, World.ownsRow_nil _ _ _ _, by omega, by omega, by omega, hlt, ?_⟩
    · have e := Cb.made (w.alloc (.cells #[.int .i64 0, .int .i64 0, .int .i64 0, .int .i64 0, .int .i64 0, .int .i64 0, .int .i64 0, .string ⟨#[]⟩, .int .i64 0, .slice none 0 0] 38)) [.int .i64 0, .int .i64 0, .int .i64 0, .int .i64 0, .int .i64 0, .int .i64 0, .int .i64 0, .string ⟨#[]⟩, .int .i64 0, .slice none 0 0] 38
      rw [World.size_alloc, ← hqn] at e
      exact e
    · rw [hqz]
      exact (Cb.made w [.int .i64 0, .int .i64 0, .int .i64 0, .int .i64 0, .int .i64 0, .int .i64 0, .int .i64 0, .string ⟨#[]⟩, .int .i64 0, .slice none 0 0] 38).keep (hg2.block _ (by simp) (by simp))
    · exact grown_on10 (grown_on10 ⟨rfl, rfl, rfl, Nat.le_refl _, fun _ _ _ => rfl⟩ hg1 (Or.inr (Nat.le_refl _))) hg2 (Or.inr (by omega))
  clear h
  unfold dptr
  go_enter Tryz.func140, Tryz.ntmps140
  go_wp2_with fail
  rw [← hqn, ← hqz]
  clear hqn hqz
  generalize ((w.alloc (.cells #[.int .i64 0, .int .i64 0, .int .i64 0, .int .i64 0, .int .i64 0, .int .i64 0, .int .i64 0, .string ⟨#[]⟩, .int .i64 0, .slice none 0 0] 38)).alloc (.cells #[.int .i64 0, .int .i64 0, .int .i64 0, .int .i64 0, .int .i64 0, .int .i64 0, .int .i64 0, .string ⟨#[]⟩, .int .i64 0, .slice none 0 0] 38)) = s0 at *
  refine (Pw.rI64_any qr ys bad _ HS0.out.rd).mono ?_
  rintro e r0 ⟨rfl, hr, hg⟩
  rw [← HE0.out.1]
  rw [← HE0.out.2.1, ← HE0.out.2.2] at hr
  have HR0 : Hid (GetW10 B w r0 qz qn qr y0 b0 (⟨0, 0, 0, 0, 0, 0, 0, ⟨#[]⟩, 0, []⟩ : Kq.Kn) (.slice none 0 0)) := HS0.out.read hr hg
  clear hr hg
  go_wp2_with fail
  refine (Pw.rI64_any qr y0 b0 _ HR0.out.rd).mono ?_
  rintro e r1 ⟨rfl, hr, hg⟩
  rw [← HE1.out.1]
  rw [← HE1.out.2.1, ← HE1.out.2.2] at hr
  have HR1 : Hid (GetW10 B w r1 qz qn qr y1 b1 (⟨0, 0, 0, 0, 0, 0, 0, ⟨#[]⟩, 0, []⟩ : Kq.Kn) (.slice none 0 0)) := HR0.out.read hr hg
  clear hr hg
  have cj0 : r1.cell? ⟨qn, 0, none⟩ = some (.int .i64 0) := HR1.out.node.cell 0
  have fj0 := HR1.out.node.free 0
  have cj1 : r1.cell? ⟨qn, 1, none⟩ = some (.int .i64 0) := HR1.out.node.cell 1
  have fj1 := HR1.out.node.free 1
  go_wp2_with fail
  have HS2 : Hid (GetW10 B w ((r1.setCell ⟨qn, 0, none⟩ (.int .i64 z0)).setCell ⟨qn, 1, none⟩ (.int .i64 z1)) qz qn qr y1 b1 (⟨z0, z1, 0, 0, 0, 0, 0, ⟨#[]⟩, 0, []⟩ : Kq.Kn) (.slice none 0 0)) := ((HR1.out.set (n' := (⟨z0, 0, 0, 0, 0, 0, 0, ⟨#[]⟩, 0, []⟩ : Kq.Kn)) 0 _ rfl rfl).set (n' := (⟨z0, z1, 0, 0, 0, 0, 0, ⟨#[]⟩, 0, []⟩ : Kq.Kn)) 1 _ rfl rfl)
  clear cj0 fj0 cj1 fj1
  generalize ((r1.setCell ⟨qn, 0, none⟩ (.int .i64 z0)).setCell ⟨qn, 1, none⟩ (.int .i64 z1)) = s2 at *
  refine (Pw.rCount_any qr 2147483647 y1 b1 _ HS2.out.rd).mono ?_
  rintro e r2 ⟨rfl, hr, hg⟩
  rw [← HE2.out.1]
  rw [← HE2.out.2.1, ← HE2.out.2.2] at hr
  have HR2 : Hid (GetW10 B w r2 qz qn qr y2 b2 (⟨z0, z1, 0, 0, 0, 0, 0, ⟨#[]⟩, 0, []⟩ : Kq.Kn) (.slice none 0 0)) := HS2.out.read hr hg
  clear hr hg
  go_wp2_with fail
  refine (Pw.rCount_any qr 2147483647 y2 b2 _ HR2.out.rd).mono ?_
  rintro e r3 ⟨rfl, hr, hg⟩
  rw [← HE3.out.1]
  rw [← HE3.out.2.1, ← HE3.out.2.2] at hr
  have HR3 : Hid (GetW10 B w r3 qz qn qr y3 b3 (⟨z0, z1, 0, 0, 0, 0, 0, ⟨#[]⟩, 0, []⟩ : Kq.Kn) (.slice none 0 0)) := HR2.out.read hr hg
  clear hr hg
  have cj2 : r3.cell? ⟨qn, 2, none⟩ = some (.int .i64 0) := HR3.out.node.cell 2
  have fj2 := HR3.out.node.free 2
  have cj3 : r3.cell? ⟨qn, 3, none⟩ = some (.int .i64 0) := HR3.out.node.cell 3
  have fj3 := HR3.out.node.free 3
  go_wp2_with fail
  have HS4 : Hid (GetW10 B w ((r3.setCell ⟨qn, 2, none⟩ (.int .i64 z2)).setCell ⟨qn, 3, none⟩ (.int .i64 z3)) qz qn qr y3 b3 (⟨z0, z1, z2, z3, 0, 0, 0, ⟨#[]⟩, 0, []⟩ : Kq.Kn) (.slice none 0 0)) := ((HR3.out.set (n' := (⟨z0, z1, z2, 0, 0, 0, 0, ⟨#[]⟩, 0, []⟩ : Kq.Kn)) 2 _ rfl rfl).set (n' := (⟨z0, z1, z2, z3, 0, 0, 0, ⟨#[]⟩, 0, []⟩ : Kq.Kn)) 3 _ rfl rfl)
  clear cj2 fj2 cj3 fj3
  generalize ((r3.setCell ⟨qn, 2, none⟩ (.int .i64 z2)).setCell ⟨qn, 3, none⟩ (.int .i64 z3)) = s4 at *
  refine (Pw.rI64_any qr y3 b3 _ HS4.out.rd).mono ?_
  rintro e r4 ⟨rfl, hr, hg⟩
  rw [← HE4.out.1]
  rw [← HE4.out.2.1, ← HE4.out.2.2] at hr
  have HR4 : Hid (GetW10 B w r4 qz qn qr y4 b4 (⟨z0, z1, z2, z3, 0, 0, 0, ⟨#[]⟩, 0, []⟩ : Kq.Kn) (.slice none 0 0)) := HS4.out.read hr hg
  clear hr hg
  go_wp2_with fail
  refine (Pw.rCount_any qr 2147483647 y4 b4 _ HR4.out.rd).mono ?_
  rintro e r5 ⟨rfl, hr, hg⟩
  rw [← HE5.out.1]
  rw [← HE5.out.2.1, ← HE5.out.2.2] at hr
  have HR5 : Hid (GetW10 B w r5 qz qn qr y5 b5 (⟨z0, z1, z2, z3, 0, 0, 0, ⟨#[]⟩, 0, []⟩ : Kq.Kn) (.slice none 0 0)) := HR4.out.read hr hg
  clear hr hg
  have cj4 : r5.cell? ⟨qn, 4, none⟩ = some (.int .i64 0) := HR5.out.node.cell 4
  have fj4 := HR5.out.node.free 4
  have cj5 : r5.cell? ⟨qn, 8, none⟩ = some (.int .i64 0) := HR5.out.node.cell 8
  have fj5 := HR5.out.node.free 8
  go_wp2_with fail
  have HS6 : Hid (GetW10 B w ((r5.setCell ⟨qn, 4, none⟩ (.int .i64 z4)).setCell ⟨qn, 8, none⟩ (.int .i64 z5)) qz qn qr y5 b5 (⟨z0, z1, z2, z3, z4, 0, 0, ⟨#[]⟩, z5, []⟩ : Kq.Kn) (.slice none 0 0)) := ((HR5.out.set (n' := (⟨z0, z1, z2, z3, z4, 0, 0, ⟨#[]⟩, 0, []⟩ : Kq.Kn)) 4 _ rfl rfl).set (n' := (⟨z0, z1, z2, z3, z4, 0, 0, ⟨#[]⟩, z5, []⟩ : Kq.Kn)) 8 _ rfl rfl)
  clear cj4 fj4 cj5 fj5
  generalize ((r5.setCell ⟨qn, 4, none⟩ (.int .i64 z4)).setCell ⟨qn, 8, none⟩ (.int .i64 z5)) = s6 at *
  refine (Pw.rText_any qr 1000 y5 b5 _ HS6.out.rd).mono ?_
  rintro e r6 ⟨rfl, hr, hg⟩
  rw [← HE6.out.1.1]
  rw [← HE6.out.2.1, ← HE6.out.2.2] at hr
  have HR6 : Hid (GetW10 B w r6 qz qn qr y6 b6 (⟨z0, z1, z2, z3, z4, 0, 0, ⟨#[]⟩, z5, []⟩ : Kq.Kn) (.slice none 0 0)) := HS6.out.read hr hg
  clear hr hg
  have cj6 : r6.cell? ⟨qn, 7, none⟩ = some (.string ⟨#[]⟩) := HR6.out.node.cell 7
  have fj6 := HR6.out.node.free 7
  go_wp2_with fail
  have HS7 : Hid (GetW10 B w (r6.setCell ⟨qn, 7, none⟩ (.string z6)) qz qn qr y6 b6 (⟨z0, z1, z2, z3, z4, 0, 0, z6, z5, []⟩ : Kq.Kn) (.slice none 0 0)) := (HR6.out.set (n' := (⟨z0, z1, z2, z3, z4, 0, 0, z6, z5, []⟩ : Kq.Kn)) 7 _ rfl rfl)
  clear cj6 fj6
  generalize (r6.setCell ⟨qn, 7, none⟩ (.string z6)) = s7 at *
  refine (Pw.rCount_any qr 500 y6 b6 _ HS7.out.rd).mono ?_
  rintro e r7 ⟨rfl, hr, hg⟩
  rw [← HE7.out.1]
  rw [← HE7.out.2.1, ← HE7.out.2.2] at hr
  have HR7 : Hid (GetW10 B w r7 qz qn qr y7 b7 (⟨z0, z1, z2, z3, z4, 0, 0, z6, z5, []⟩ : Kq.Kn) (.slice none 0 0)) := HS7.out.read hr hg
  clear hr hg
  go_wp2
  go_loopw [33] (fun i wr => ∃ (k : Nat) (ys' : List UInt8) (bad' : Bool) (u : Value) (l : List ByteArray), k ≤ K ∧ i = .int .i64 (k : Int) ∧ l.length = k ∧ GetW10 B w wr qz qn qr ys' bad' (⟨z0, z1, z2, z3, z4, 0, 0, z6, z5, l⟩ : Kq.Kn) u ∧ Kq.rdN2 K y7 b7 = (l ++ (Kq.rdN2 (K - k) ys' bad').1, (Kq.rdN2 (K - k) ys' bad').2)) (fun i _ => K - (intOf i).toNat)
  case atStart => exact ⟨0, y7, b7, .slice none 0 0, [], Nat.zero_le _, rfl, rfl, HR7.out, rfl⟩
  case round =>
    obtain ⟨k, ys', bad', u, l, hk, rfl, hlk, hgs, hrd⟩ := hrel
    have HG : Hid (GetW10 B w wr qz qn qr ys' bad' (⟨z0, z1, z2, z3, z4, 0, 0, z6, z5, l⟩ : Kq.Kn) u) := hgs
    have HRD : Hid (l.length = k ∧ Kq.rdN2 K y7 b7 = (l ++ (Kq.rdN2 (K - k) ys' bad').1, (Kq.rdN2 (K - k) ys' bad').2)) := ⟨hlk, hrd⟩
    obtain ⟨au, cu, hu, hrest⟩ := row_form hgs.own
    simp only [] at hu
    rw [hlk] at hu
    subst hu
    clear hgs hlk hrd hrest HR0 HR1 HR2 HR3 HR4 HR5 HR6 HR7 HS0 HS2 HS4 HS6 HS7
    by_cases hlt : k < K
    · have hlt' : (k : Int) < (K : Int) := by omega
      have hwk : IntKind.wrap .i64 ((k : Int) + 1) = (k : Int) + 1 := by rw [IntKind.wrap_i64]; omega
      go_wp2_with fail
      refine wp_region_U (fun w' => w'.cell? ⟨qn, 9, none⟩ = some (.slice au k cu)) [7] (by kernel_rfl) ?_
      have HX : Hid (GetW10 B w wr.drew qz qn qr ys' bad' (⟨z0, z1, z2, z3, z4, 0, 0, z6, z5, l⟩ : Kq.Kn) (.slice au k cu)) := HG.out.same (Below.refl _ _).drew
      clear HG
      generalize wr.drew = wX at *
      have HC0 : Hid (wX.cell? ⟨qn, 9, none⟩ = some (.slice au k cu)) := HX.out.node.cell 9
      refine' take_U (i := 0) (d := 35) (v := _) rfl rfl (by kernel_rfl) (by kernel_rfl) (by kernel_rfl) (by kernel_rfl) (by kernel_rfl) (by kernel_rfl) (fun _ _ _ h => h) (Or.inl ⟨by rfl, ?h0⟩) (HC0.out) ?_
      case h0 => intro w hSw; go_simp; with_reducible rfl
      simp only [List.setIfInBounds_toArray, List.set_cons_zero, List.set_cons_succ]
      refine' take_U (i := 1) (d := 36) (v := _) rfl rfl (by kernel_rfl) (by kernel_rfl) (by kernel_rfl) (by kernel_rfl) (by kernel_rfl) (by kernel_rfl) (fun _ _ _ h => h) (Or.inl ⟨by rfl, ?h1⟩) (HC0.out) ?_
      case h1 => intro w hSw; go_simp; with_reducible rfl
      simp only [List.setIfInBounds_toArray, List.set_cons_zero, List.set_cons_succ]
      refine' take_U (i := 2) (d := 37) (v := _) rfl rfl (by kernel_rfl) (by kernel_rfl) (by kernel_rfl) (by kernel_rfl) (by kernel_rfl) (by kernel_rfl) (fun _ _ _ h => h) (Or.inl ⟨by rfl, ?h2⟩) (HC0.out) ?_
      case h2 => intro w hSw; go_simp; with_reducible rfl
      simp only [List.setIfInBounds_toArray, List.set_cons_zero, List.set_cons_succ]
      refine wpAnyU_ready (rs := [3]) (by kernel_rfl) (by simp) ?_
      refine AllReadyU.cons (o := _) rfl (fun KQ hK => ?_) AllReadyU.nil
      go_simp
      refine (Pw.rText_any qr 40 ys' bad' _ HX.out.rd).mono ?_
      rintro e wA ⟨rfl, hr, hg⟩
      obtain ⟨x, hx⟩ : ∃ x : ByteArray, x = ⟨(Pk.rT 40 ys' bad').1.toArray⟩ := ⟨_, rfl⟩
      obtain ⟨yA, hyA⟩ : ∃ y, y = (Pk.rT 40 ys' bad').2.1 := ⟨_, rfl⟩
      obtain ⟨bA, hbA⟩ : ∃ y, y = (Pk.rT 40 ys' bad').2.2 := ⟨_, rfl⟩
      have HT : Hid (x = ⟨(Pk.rT 40 ys' bad').1.toArray⟩ ∧ yA = (Pk.rT 40 ys' bad').2.1 ∧ bA = (Pk.rT 40 ys' bad').2.2) := ⟨hx, hyA, hbA⟩
      rw [← hyA, ← hbA] at hr
      rw [← hx]
      clear hx hyA hbA
      have HA : Hid (GetW10 B w wA qz qn qr yA bA (⟨z0, z1, z2, z3, z4, 0, 0, z6, z5, l⟩ : Kq.Kn) (.slice au k cu)) := HX.out.read hr hg
      clear hr hg
      simp only []
      refine hK.out _ _ (fun _ _ => HA.out.node.cell 9) ?_
      clear hK
      refine wpAnyU_ready (rs := [4]) (by kernel_rfl) (by simp) ?_
      refine AllReadyU.cons (o := _) rfl (fun KQ hK => ?_) AllReadyU.nil
      go_simp
      obtain ⟨qx, hqx⟩ : ∃ z, z = wA.heap.size := ⟨_, rfl⟩
      rw [← hqx]
      have HSx : Hid (Src (wA.alloc (.cells #[.string x] 9)) (.slice (some ⟨qx, 0, none⟩) 1 1) [x]) := by rw [hqx]; exact Src.one wA x _
      have HB : Hid (GetW10 B w (wA.alloc (.cells #[.string x] 9)) qz qn qr yA bA (⟨z0, z1, z2, z3, z4, 0, 0, z6, z5, l⟩ : Kq.Kn) (.slice au k cu)) := HA.out.same ((Below.refl _ _).alloc (Nat.le_refl _) _)
      clear hqx
      generalize wA.alloc (.cells #[.string x] 9) = wB at *
      refine hK.out _ _ (fun _ _ => HB.out.node.cell 9) ?_
      clear hK
      refine wpAnyU_ready (rs := [5]) (by kernel_rfl) (by simp) ?_
      refine AllReadyU.cons (o := _) rfl (fun KQ hK => ?_) AllReadyU.nil
      refine wp_strs _ _ rfl w.heap.size (.slice au k cu) (.slice (some ⟨qx, 0, none⟩) 1 1) l [x] wB rfl rfl HB.out.own HB.out.gr.size HSx.out (by have h1 := HRD.out.1; simp only [List.length_singleton]; omega) ?_
      intro v42 wC ho hb hg
      have HQ4 : Hid (wC.cell? ⟨qn, 9, none⟩ = some (.slice au k cu) ∧ wC.frozen? ⟨qn, 9, none⟩ = false) := by
        have e : Cb wC qn (k10 (⟨z0, z1, z2, z3, z4, 0, 0, z6, z5, l⟩ : Kq.Kn) (.slice au k cu)) 38 := HB.out.node.keep (hg.block _ HB.out.node.lt (fun e => HB.out.node.apart HB.out.own (by decide) e.symm))
        exact ⟨e.cell 9, e.free 9⟩
      obtain ⟨a42, c42, hv42, hrest⟩ := row_form ho
      obtain ⟨n42, hn42⟩ : ∃ z, z = (l ++ [x]).length := ⟨_, rfl⟩
      rw [← hn42] at hv42
      subst hv42
      have HM : Hid (GetW10 B w (wC.setCell ⟨qn, 9, none⟩ (.slice a42 n42 c42)) qz qn qr yA bA (⟨z0, z1, z2, z3, z4, 0, 0, z6, z5, l ++ [x]⟩ : Kq.Kn) (.slice a42 n42 c42)) := HB.out.more hg ho
      clear ho hb hg hn42 hrest
      go_simp
      refine hK.out _ _ (fun _ _ => HQ4.out.1) ?_
      clear hK
      refine' take_U (i := 6) (d := 41) (v := _) rfl rfl (by kernel_rfl) (by kernel_rfl) (by kernel_rfl) (by kernel_rfl) (by kernel_rfl) (by kernel_rfl) (fun _ _ _ h => h) (Or.inl ⟨by rfl, ?h6⟩) (HQ4.out.1) ?_
      case h6 => intro w hSw; go_simp; with_reducible rfl
      simp only [List.setIfInBounds_toArray, List.set_cons_zero, List.set_cons_succ]
      refine wpAnyU_ready (rs := [7]) (by kernel_rfl) (by simp) ?_
      refine AllReadyU.cons (o := _) rfl (fun KQ hK => ?_) AllReadyU.nil
      have hc := HQ4.out.1
      have hz := HQ4.out.2
      go_simp
      clear hc hz
      refine hK.out _ _ (fun h => absurd (by decide) h) ?_
      clear hK
      refine wpAnyU_done (by kernel_rfl) ?_ _
      generalize wC.setCell ⟨qn, 9, none⟩ (.slice a42 n42 c42) = wz at *
      have HRN : Hid ((l ++ [x]).length = k + 1 ∧ Kq.rdN2 K y7 b7 = ((l ++ [x]) ++ (Kq.rdN2 (K - (k + 1)) yA bA).1, (Kq.rdN2 (K - (k + 1)) yA bA).2)) := by
        refine ⟨by rw [List.length_append, HRD.out.1]; rfl, ?_⟩
        have h2 := Kq.rdN2_step hlt HRD.out.2
        rw [← HT.out.1, ← HT.out.2.1, ← HT.out.2.2] at h2
        exact h2
      clear HC0 HX HA HB HQ4 HSx
      go_wp2
      go_roundw
      case rel => exact ⟨k + 1, yA, bA, _, l ++ [x], by omega, by go_num, HRN.out.1, HM.out, HRN.out.2⟩
      case measure => simp [intOf]; omega
    · have hkK : k = K := by omega
      have hlt' : ¬ (k : Int) < (K : Int) := by omega
      have HF2 : Hid (Kq.rdN2 K y7 b7 = (l, ys', bad')) := by
        have e : Kq.rdN2 K y7 b7 = (l, ys', bad') := by
          rw [HRD.out.2, hkK, Nat.sub_self, Kq.rdN2]
          simp
        exact e
      have HRAW : Hid (∀ i, Kq.rdNs K y7 b7 = i → Kq.raw ys bad = (⟨z0, z1, z2, z3, z4, (z6.size : Int), (i.1.length : Int), z6, z5, i.1⟩, i.2.1, i.2.2)) := by
        intro i hi
        unfold Kq.raw
        simp only []
        rw [← HE0.out.1, ← HE0.out.2.1, ← HE0.out.2.2, ← HE1.out.1, ← HE1.out.2.1, ← HE1.out.2.2, ← HE2.out.1, ← HE2.out.2.1, ← HE2.out.2.2, ← HE3.out.1, ← HE3.out.2.1, ← HE3.out.2.2, ← HE4.out.1, ← HE4.out.2.1, ← HE4.out.2.2, ← HE5.out.1, ← HE5.out.2.1, ← HE5.out.2.2, ← HE6.out.1.1, ← HE6.out.1.2, ← HE6.out.2.1, ← HE6.out.2.2, ← HE7.out.1, ← HE7.out.2.1, ← HE7.out.2.2, Int.toNat_natCast, hi]
      clear hkK HE0 HE1 HE2 HE3 HE4 HE5 HE6 HE7
      have HBAD : Hid (Calls Tryz.prog 184 #[.pointer (some ⟨qr, 0, none⟩)] wr fun e w' => e = .returned (.bool bad') ∧ w' = wr) := Pw.rBad_any qr ys' bad' wr HG.out.rd
      go_wp2_with fail
      refine HBAD.out.mono ?_
      rintro e wq ⟨rfl, hw⟩
      rw [hw]
      clear hw wq HBAD
      cases bad' with
      | true =>
        have HNG : Hid (¬ Kq.Good ys bad) := fun hg => by
          have e := hg.1
          have e2 := (Kq.rdN2_eq K y7 b7).1
          rw [HF2.out] at e2
          rw [HRAW.out _ rfl] at e
          rw [← e2] at e
          cases e
        obtain ⟨z0a, z1a, z2a, z3a, z4a, z5a, z6a, z7a, z8a, z9a⟩ := ten_cells HG.out.ans
        have f0 := HG.out.ans.free 0
        have f1 := HG.out.ans.free 1
        have f2 := HG.out.ans.free 2
        have f3 := HG.out.ans.free 3
        have f4 := HG.out.ans.free 4
        have f5 := HG.out.ans.free 5
        have f6 := HG.out.ans.free 6
        have f7 := HG.out.ans.free 7
        have f8 := HG.out.ans.free 8
        have f9 := HG.out.ans.free 9
        go_wp2_with fail
        have HX : Hid (Cb (put10 wr qz Kq.zero (.slice none 0 0)) qz (k10 Kq.zero (.slice none 0 0)) 38) := put10_cb HG.out.ans
        have HGR : Hid (w.grownBy (put10 wr qz Kq.zero (.slice none 0 0)) (some qr)) := grown_on10 HG.out.gr (put10_grown _ _ _ _) (Or.inr HG.out.hz)
        unfold put10 Kq.zero at HX HGR
        simp only [] at HX HGR
        generalize ((((((((((wr.setCell ⟨qz, 0, none⟩ (.int .i64 0)).setCell ⟨qz, 1, none⟩ (.int .i64 0)).setCell ⟨qz, 2, none⟩ (.int .i64 0)).setCell ⟨qz, 3, none⟩ (.int .i64 0)).setCell ⟨qz, 4, none⟩ (.int .i64 0)).setCell ⟨qz, 5, none⟩ (.int .i64 0)).setCell ⟨qz, 6, none⟩ (.int .i64 0)).setCell ⟨qz, 7, none⟩ (.string ⟨#[]⟩)).setCell ⟨qz, 8, none⟩ (.int .i64 0)).setCell ⟨qz, 9, none⟩ (.slice none 0 0)) = wy at *
        clear z0a z1a z2a z3a z4a z5a z6a z7a z8a z9a f0 f1 f2 f3 f4 f5 f6 f7 f8 f9
        refine bodyPost_ret (v := .tuple #[.agg #[.int .i64 0, .int .i64 0, .int .i64 0, .int .i64 0, .int .i64 0, .int .i64 0, .int .i64 0, .string ⟨#[]⟩, .int .i64 0, .slice none 0 0], .bool false]) ?_ rfl ⟨fun hg => absurd hg HNG.out, fun _ => ⟨none, 0, rfl⟩, HGR.out⟩
        obtain ⟨c0, c1, c2, c3, c4, c5, c6, c7, c8, c9⟩ := ten_cells HX.out
        simp only [] at c0 c1 c2 c3 c4 c5 c6 c7 c8 c9
        rw [results_cell_tmp rfl]
        go_simp
      | false =>
        have HFN : Hid (Kq.raw ys bad = (⟨z0, z1, z2, z3, z4, (z6.size : Int), (l.length : Int), z6, z5, l⟩, ys', false)) := by
          have e2 := (Kq.rdN2_eq K y7 b7).2 (by rw [HF2.out])
          have e := HRAW.out _ e2
          rw [HF2.out] at e
          exact e
        clear HRAW HF2
        have c9 : wr.cell? ⟨qn, 9, none⟩ = some (.slice au k cu) := HG.out.node.cell 9
        go_wp2_with fail
        refine (rise_any10 (.slice au k cu) l _ (Nm.of_row HG.out.own).ss (by have := HRD.out.1; omega)).mono ?_
        rintro e wR ⟨r, rfl, hr, hb⟩
        have HH : Hid (GetW10 B w wR qz qn qr ys' false (⟨z0, z1, z2, z3, z4, 0, 0, z6, z5, l⟩ : Kq.Kn) (.slice au k cu)) := HG.out.same hb
        have HRI : Hid (r = true ↔ Kq.Rises l) := hr
        clear hr hb c9 HG
        obtain ⟨z0a, z1a, z2a, z3a, z4a, z5a, z6a, z7a, z8a, z9a⟩ := ten_cells HH.out.ans
        have f0 := HH.out.ans.free 0
        have f1 := HH.out.ans.free 1
        have f2 := HH.out.ans.free 2
        have f3 := HH.out.ans.free 3
        have f4 := HH.out.ans.free 4
        have f5 := HH.out.ans.free 5
        have f6 := HH.out.ans.free 6
        have f7 := HH.out.ans.free 7
        have f8 := HH.out.ans.free 8
        have f9 := HH.out.ans.free 9
        cases r with
        | false =>
          have HNG : Hid (¬ Kq.Good ys bad) := fun hg => by
            have e := hg.2
            rw [HFN.out] at e
            have := HRI.out.2 e
            cases this
          go_wp2_with fail
          have HX : Hid (Cb (put10 wR qz Kq.zero (.slice none 0 0)) qz (k10 Kq.zero (.slice none 0 0)) 38) := put10_cb HH.out.ans
          have HGR : Hid (w.grownBy (put10 wR qz Kq.zero (.slice none 0 0)) (some qr)) := grown_on10 HH.out.gr (put10_grown _ _ _ _) (Or.inr HH.out.hz)
          unfold put10 Kq.zero at HX HGR
          simp only [] at HX HGR
          generalize ((((((((((wR.setCell ⟨qz, 0, none⟩ (.int .i64 0)).setCell ⟨qz, 1, none⟩ (.int .i64 0)).setCell ⟨qz, 2, none⟩ (.int .i64 0)).setCell ⟨qz, 3, none⟩ (.int .i64 0)).setCell ⟨qz, 4, none⟩ (.int .i64 0)).setCell ⟨qz, 5, none⟩ (.int .i64 0)).setCell ⟨qz, 6, none⟩ (.int .i64 0)).setCell ⟨qz, 7, none⟩ (.string ⟨#[]⟩)).setCell ⟨qz, 8, none⟩ (.int .i64 0)).setCell ⟨qz, 9, none⟩ (.slice none 0 0)) = wy at *
          clear z0a z1a z2a z3a z4a z5a z6a z7a z8a z9a f0 f1 f2 f3 f4 f5 f6 f7 f8 f9
          refine bodyPost_ret (v := .tuple #[.agg #[.int .i64 0, .int .i64 0, .int .i64 0, .int .i64 0, .int .i64 0, .int .i64 0, .int .i64 0, .string ⟨#[]⟩, .int .i64 0, .slice none 0 0], .bool false]) ?_ rfl ⟨fun hg => absurd hg HNG.out, fun _ => ⟨none, 0, rfl⟩, HGR.out⟩
          obtain ⟨c0, c1, c2, c3, c4, c5, c6, c7, c8, c9⟩ := ten_cells HX.out
          simp only [] at c0 c1 c2 c3 c4 c5 c6 c7 c8 c9
          rw [results_cell_tmp rfl]
          go_simp
        | true =>
          obtain ⟨c0, c1, c2, c3, c4, c5, c6, c7, c8, c9⟩ := ten_cells HH.out.node
          simp only [] at c0 c1 c2 c3 c4 c5 c6 c7 c8 c9
          have e5 := HH.out.node.free 5
          have e6 := HH.out.node.free 6
          have HNE : Hid (qn ≠ qz) := HH.out.ne
          have hne1 : ¬ qn = qz := HH.out.ne
          have hne2 : ¬ qz = qn := fun e => HH.out.ne e.symm
          go_wp2_with fail
          clear c0 c1 c2 c3 c4 c5 c6 c7 c8 c9 e5 e6 hne1 hne2
          have HJ : Hid (GetW10 B w ((wR.setCell ⟨qn, 5, none⟩ (.int .i64 (z6.size : Int))).setCell ⟨qn, 6, none⟩ (.int .i64 (k : Int))) qz qn qr ys' false (⟨z0, z1, z2, z3, z4, (z6.size : Int), (k : Int), z6, z5, l⟩ : Kq.Kn) (.slice au k cu)) := (HH.out.set (n' := (⟨z0, z1, z2, z3, z4, (z6.size : Int), 0, z6, z5, l⟩ : Kq.Kn)) 5 _ rfl rfl).set 6 _ rfl rfl
          have HX : Hid (Cb (put10 ((wR.setCell ⟨qn, 5, none⟩ (.int .i64 (z6.size : Int))).setCell ⟨qn, 6, none⟩ (.int .i64 (k : Int))) qz (⟨z0, z1, z2, z3, z4, (z6.size : Int), (k : Int), z6, z5, l⟩ : Kq.Kn) (.slice au k cu)) qz (k10 (⟨z0, z1, z2, z3, z4, (z6.size : Int), (k : Int), z6, z5, l⟩ : Kq.Kn) (.slice au k cu)) 38) := put10_cb HJ.out.ans
          have hpg := put10_grown ((wR.setCell ⟨qn, 5, none⟩ (.int .i64 (z6.size : Int))).setCell ⟨qn, 6, none⟩ (.int .i64 (k : Int))) qz (⟨z0, z1, z2, z3, z4, (z6.size : Int), (k : Int), z6, z5, l⟩ : Kq.Kn) (.slice au k cu)
          have HGR : Hid (w.grownBy (put10 ((wR.setCell ⟨qn, 5, none⟩ (.int .i64 (z6.size : Int))).setCell ⟨qn, 6, none⟩ (.int .i64 (k : Int))) qz (⟨z0, z1, z2, z3, z4, (z6.size : Int), (k : Int), z6, z5, l⟩ : Kq.Kn) (.slice au k cu)) (some qr) ∧ (put10 ((wR.setCell ⟨qn, 5, none⟩ (.int .i64 (z6.size : Int))).setCell ⟨qn, 6, none⟩ (.int .i64 (k : Int))) qz (⟨z0, z1, z2, z3, z4, (z6.size : Int), (k : Int), z6, z5, l⟩ : Kq.Kn) (.slice au k cu)).ownsRow w.heap.size 9 1 (.slice au k cu) l.length (sc l) ∧ Pw.Rd B (put10 ((wR.setCell ⟨qn, 5, none⟩ (.int .i64 (z6.size : Int))).setCell ⟨qn, 6, none⟩ (.int .i64 (k : Int))) qz (⟨z0, z1, z2, z3, z4, (z6.size : Int), (k : Int), z6, z5, l⟩ : Kq.Kn) (.slice au k cu)) qr ys' false) := by
            refine ⟨grown_on10 HJ.out.gr hpg (Or.inr HJ.out.hz), row_stays HJ.out.own (fun x hx => hpg.block x (HJ.out.own.lt x hx).2 (fun e => HJ.out.ans.apart HJ.out.own (by decide) (by rw [hx]; exact e))), HJ.out.rd.grown hpg (by have h1 := HJ.out.hr; have h2 := HJ.out.hz; omega)⟩
          clear hpg
          unfold put10 at HX HGR
          simp only [] at HX HGR
          generalize ((((((((((((wR.setCell ⟨qn, 5, none⟩ (.int .i64 (z6.size : Int))).setCell ⟨qn, 6, none⟩ (.int .i64 (k : Int))).setCell ⟨qz, 0, none⟩ (.int .i64 z0)).setCell ⟨qz, 1, none⟩ (.int .i64 z1)).setCell ⟨qz, 2, none⟩ (.int .i64 z2)).setCell ⟨qz, 3, none⟩ (.int .i64 z3)).setCell ⟨qz, 4, none⟩ (.int .i64 z4)).setCell ⟨qz, 5, none⟩ (.int .i64 (z6.size : Int))).setCell ⟨qz, 6, none⟩ (.int .i64 (k : Int))).setCell ⟨qz, 7, none⟩ (.string z6)).setCell ⟨qz, 8, none⟩ (.int .i64 z5)).setCell ⟨qz, 9, none⟩ (.slice au k cu)) = wy at *
          clear z0a z1a z2a z3a z4a z5a z6a z7a z8a z9a f0 f1 f2 f3 f4 f5 f6 f7 f8 f9
          refine bodyPost_ret (v := .tuple #[.agg #[.int .i64 z0, .int .i64 z1, .int .i64 z2, .int .i64 z3, .int .i64 z4, .int .i64 (z6.size : Int), .int .i64 (k : Int), .string z6, .int .i64 z5, .slice au k cu], .bool true]) ?_ rfl ⟨fun _ => ⟨.slice au k cu, ?_, ?_, ?_⟩, fun hg => absurd ⟨by rw [HFN.out], by rw [HFN.out]; exact HRI.out.1 (by simp)⟩ hg, HGR.out.1⟩
          · obtain ⟨c0, c1, c2, c3, c4, c5, c6, c7, c8, c9⟩ := ten_cells HX.out
            simp only [] at c0 c1 c2 c3 c4 c5 c6 c7 c8 c9
            rw [results_cell_tmp rfl]
            go_simp
          · rw [HFN.out, HRD.out.1]
            rfl
          · rw [HFN.out]
            exact HGR.out.2.1
          · rw [HFN.out]
            exact HGR.out.2.2
end Go.Proofs.YtpidafpaffpnaaaGreatDoor
