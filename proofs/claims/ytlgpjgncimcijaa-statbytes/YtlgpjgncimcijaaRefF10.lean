/- What the reference's Get has under way. -/
import Derived.Test.YtlgpjgncimcijaaRefE10
import Derived.Test.YtlgpjgncimcijaaRefB10
namespace Go.Proofs.Ytlgpjgncimcijaa
open Go.RowKit

theorem rC_in (m : Int) (ys : List UInt8) (bad : Bool) (hm : 0 ≤ m) : 0 ≤ (Pk.rC m ys bad).1 ∧ (Pk.rC m ys bad).1 ≤ m := by
  unfold Pk.rC
  split <;> simp_all <;> omega
theorem grown_on {w w1 w2 : World} {q r : Nat} (h : w.grownBy w1 (some q)) (h2 : w1.grownBy w2 (some r)) (hr : r = q ∨ w.heap.size ≤ r) : w.grownBy w2 (some q) :=
  ⟨h2.os.trans h.os, h2.tape.trans h.tape, h2.output.trans h.output, Nat.le_trans h.size h2.size, fun k hk hq => (h2.block k (Nat.lt_of_lt_of_le hk h.size) (fun e => by
    rcases hr with h | h
    · exact hq (by rw [← h]; exact e)
    · simp only [Option.some.injEq] at e
      omega)).trans (h.block k hk hq)⟩

/-- The Reader at qr, the node at qn, the answer's place at qz. -/
structure GetS10 (w wr : World) (qz qn qr : Nat) (v : Value) (b ys : List UInt8) (bad : Bool) (n : Kq.Kn) (u : Value) : Prop where
  rf : Pw.Rf wr qr v b ys bad
  node : Cb wr qn (k10 n u) 40
  ans : Cb wr qz (k10 Kq.zero (.slice none 0 0)) 40
  own : wr.ownsRow w.heap.size 9 1 u n.names.length (sc n.names)
  hz : w.heap.size ≤ qz
  hn : w.heap.size ≤ qn
  ne : qn ≠ qz
  hr : qr < w.heap.size
  vb : 0 < b.length → ∀ r, v.ownBlock = some r → r < w.heap.size
  gr : w.grownBy wr (some qr)
section
variable {w wr w' : World} {qz qn qr : Nat} {v u : Value} {b ys ys' : List UInt8} {bad bad' : Bool} {n n' : Kq.Kn}
/-- The Reader has read. -/
theorem GetS10.read (h : GetS10 w wr qz qn qr v b ys bad n u) (hr : Pw.Rf w' qr v b ys' bad') (hg : wr.grownBy w' (some qr)) : GetS10 w w' qz qn qr v b ys' bad' n u := by
  have h1 := h.hr
  have h2 := h.hz
  have h3 := h.hn
  exact ⟨hr, h.node.keep (hg.block _ h.node.lt (fun e => by simp at e; omega)), h.ans.keep (hg.block _ h.ans.lt (fun e => by simp at e; omega)), row_stays h.own (fun k hk => hg.block k (h.own.lt k hk).2 (fun e => by have := (h.own.lt k hk).1; simp at e; omega)), h2, h3, h.ne, h1, h.vb, grown_on h.gr hg (Or.inl rfl)⟩
/-- Nothing of it was touched. -/
theorem GetS10.same (h : GetS10 w wr qz qn qr v b ys bad n u) (hg : ∀ r, wr.grownBy w' (some r)) : GetS10 w w' qz qn qr v b ys bad n u := by
  have h1 := h.hr
  have h3 := h.hn
  exact h.read (h.rf.grown (hg qn) (by omega) (fun hb e => by have := h.vb hb _ e; omega)) (hg qr)
theorem GetS10.names (h : GetS10 w wr qz qn qr v b ys bad n u) : Nm wr u n.names := Nm.of_row h.own
/-- The node was written. -/
theorem GetS10.set (h : GetS10 w wr qz qn qr v b ys bad n u) (i : Nat) (x : Value) (hk : (k10 n u).set i x = k10 n' u) (hn : n'.names = n.names) : GetS10 w (wr.setCell ⟨qn, i, none⟩ x) qz qn qr v b ys bad n' u := by
  have h1 := h.hr
  have h2 := h.hz
  have h3 := h.hn
  have hg := grownBy_setCell wr ⟨qn, i, none⟩ x
  refine ⟨h.rf.grown hg (by show qr ≠ qn; omega) (fun hb e => by have := h.vb hb _ e; simp at this; omega), hk ▸ h.node.set i x, h.ans.keep (RowKit.Below.heap_setCell _ _ _ _ (fun e => h.ne e.symm)), ?_, h2, h3, h.ne, h1, h.vb, grown_on h.gr hg (Or.inr h3)⟩
  rw [hn]
  exact row_stays h.own (fun k hk2 => RowKit.Below.heap_setCell _ _ _ _ (fun e => h.node.apart h.own (by decide) (by rw [hk2]; exact congrArg some e)))
/-- A name is behind the others. -/
theorem GetS10.more {u' : Value} {l : List ByteArray} (h : GetS10 w wr qz qn qr v b ys bad n u) (hg : wr.grownBy w' u.ownBlock) (ho : w'.ownsRow w.heap.size 9 1 u' l.length (sc l)) : GetS10 w (w'.setCell ⟨qn, 9, none⟩ u') qz qn qr v b ys bad { n with names := l } u' := by
  have h1 := h.hr
  have h2 := h.hz
  have h3 := h.hn
  have hne := h.node.apart h.own (by decide)
  have hnz := h.ans.apart h.own (by decide)
  have hs := grownBy_setCell w' ⟨qn, 9, none⟩ u'
  have hnode : Cb w' qn (k10 n u) 40 := h.node.keep (hg.block _ h.node.lt (fun e => hne e.symm))
  have hub : ∀ k, u.ownBlock = some k → w.heap.size ≤ k := fun k hk => (h.own.lt k hk).1
  have hrf : Pw.Rf w' qr v b ys bad := by
    cases hu : u.ownBlock with
    | none =>
      rw [hu] at hg
      exact h.rf.grown (r := w'.heap.size + wr.heap.size + qr + 1 + w.heap.size) ⟨hg.os, hg.tape, hg.output, hg.size, fun k hk _ => hg.block k hk (by simp)⟩ (by omega) (fun hb e => by have := h.vb hb _ e; omega)
    | some k =>
      rw [hu] at hg
      have := hub k hu
      exact h.rf.grown hg (by omega) (fun hb e => by have := h.vb hb _ e; omega)
  refine ⟨hrf.grown hs (by show qr ≠ qn; omega) (fun hb e => by have := h.vb hb _ e; simp at this; omega), hnode.set 9 u', (h.ans.keep (hg.block _ h.ans.lt (fun e => hnz e.symm))).keep (RowKit.Below.heap_setCell _ _ _ _ (fun e => h.ne e.symm)), row_stays ho (fun k hk2 => RowKit.Below.heap_setCell _ _ _ _ (fun e => hnode.apart ho (by decide) (by rw [hk2]; exact congrArg some e))), h2, h3, h.ne, h1, h.vb, ?_⟩
  refine ⟨hs.os.trans (hg.os.trans h.gr.os), hs.tape.trans (hg.tape.trans h.gr.tape), hs.output.trans (hg.output.trans h.gr.output), Nat.le_trans h.gr.size (Nat.le_trans hg.size hs.size), fun k hk hq => ?_⟩
  rw [RowKit.Below.heap_setCell _ _ _ _ (by show k ≠ qn; omega), hg.block k (Nat.lt_of_lt_of_le hk h.gr.size) (fun e => by have := hub k e.symm; omega)]
  exact h.gr.block k hk hq
end
end Go.Proofs.Ytlgpjgncimcijaa
