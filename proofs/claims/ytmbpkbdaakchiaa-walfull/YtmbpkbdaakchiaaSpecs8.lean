/- What wal's calls are asked to answer, whatever the log is made of (to be proved of the landed code). -/
import Derived.Test.YtmbpkbdaakchiaaPlainW8
import Derived.Test.YtmbpkbdaakchiaaMine7
namespace Go.Proofs.Ytmbpkbdaakchiaa
open Go.RowKit

/-- A representation of logs: in a world, at an address, over the disk at an address, this log, in these blocks. -/
abbrev RepG := World → Nat → Nat → Wq.Lg → (Nat → Prop) → Prop
def both (F G : Nat → Prop) : Nat → Prop := fun k => F k ∨ G k

/-- A disk that a log may lie on. -/
def FineW (st : Dq.St) : Prop := Fine st ∧ st.room ≤ 100000 ∧ st.fs.length ≤ 900
/-- A log that is not too long. -/
structure FineG (g : Wq.Lg) : Prop where
  lo : 1 ≤ g.first
  hi : g.first ≤ 1099511627776
  len : g.recs.length ≤ 10000
  recs : ∀ r ∈ g.recs, r.length ≤ 20000

/-- What a call of a log comes to. -/
def Post8 (LD : Rep) (LG : RepG) (w : World) (ql qd : Nat) (F G : Nat → Prop) (g' : Wq.Lg) (st' : Dq.St) (w' : World) : Prop :=
  ∃ F' G' g2, LD w' qd st' F' ∧ LG w' ql qd g2 G' ∧ Wq.Like g2 g' st' ∧ (∀ k, F' k → ¬ G' k) ∧ Moved w w' (both F G) (both F' G')

structure Specs8 (LD : Rep) (LG : RepG) : Prop where
  big : ∀ (q : Nat) (st : Dq.St) (F : Nat → Prop) (s : ByteArray) (v : Value) (b : List UInt8) (w : World), LD w q st F → Fine st → Bs w v b → b.length ≤ 100000 → Apart F v b →
    Calls Try.prog 20 #[dptr q, .string s, v] w fun e w' => ∃ F', e = .returned (.int .i64 (Dq.append st s b).1) ∧ LD w' q (Dq.append st s b).2 F' ∧ Moved w w' F F'
  lt : ∀ {w ql qd g G k}, LG w ql qd g G → G k → k < w.heap.size
  keep : ∀ {w w' : World} {ql qd g G}, LG w ql qd g G → (∀ k, G k → w'.heap[k]? = w.heap[k]?) → LG w' ql qd g G
  fine : ∀ {w ql qd g G}, LG w ql qd g G → FineG g
  opn : ∀ (qd : Nat) (st : Dq.St) (F : Nat → Prop) (w : World), LD w qd st F → FineW st →
    Calls Try.prog 10 #[dptr qd] w fun e w' => ∃ F', LD w' qd (Wq.opn st).2.2 F' ∧ Moved w w' F F' ∧
      ((Wq.opn st).2.1 = none → e = .returned (.tuple #[.pointer none, .int .i64 (Wq.opn st).1])) ∧
      ∀ g, (Wq.opn st).2.1 = some g → ∃ ql G, e = .returned (.tuple #[dptr ql, .int .i64 (Wq.opn st).1]) ∧ LG w' ql qd g G ∧ (∀ k, G k → w.heap.size ≤ k) ∧ ∀ k, F' k → ¬ G k
  add : ∀ (ql qd : Nat) (g : Wq.Lg) (st : Dq.St) (F G : Nat → Prop) (v : Value) (r : List UInt8) (w : World), LD w qd st F → LG w ql qd g G → (∀ k, F k → ¬ G k) → FineW st → st.off = false → g.recs.length ≤ 9999 → Bs w v r → r.length ≤ 100000 → Apart F v r → Apart G v r →
    Calls Try.prog 11 #[dptr ql, v] w fun e w' => e = .returned (.int .i64 (Wq.add g st r).1) ∧ Post8 LD LG w ql qd F G (Wq.add g st r).2.1 (Wq.add g st r).2.2 w'
  sync : ∀ (ql qd : Nat) (g : Wq.Lg) (st : Dq.St) (F G : Nat → Prop) (w : World), LD w qd st F → LG w ql qd g G → (∀ k, F k → ¬ G k) → FineW st →
    Calls Try.prog 17 #[dptr ql] w fun e w' => e = .returned (.int .i64 (Wq.sync g st).1) ∧ Post8 LD LG w ql qd F G (Wq.sync g st).2.1 (Wq.sync g st).2.2 w'
  first : ∀ (ql qd : Nat) (g : Wq.Lg) (G : Nat → Prop) (w : World), LG w ql qd g G →
    Calls Try.prog 19 #[dptr ql] w fun e w' => e = .returned (.int .i64 g.first) ∧ Below w.heap.size w w'
  next : ∀ (ql qd : Nat) (g : Wq.Lg) (G : Nat → Prop) (w : World), LG w ql qd g G →
    Calls Try.prog 15 #[dptr ql] w fun e w' => e = .returned (.int .i64 (Wq.next g)) ∧ Below w.heap.size w w'
  at_ : ∀ (ql qd : Nat) (g : Wq.Lg) (st : Dq.St) (F G : Nat → Prop) (n : Int) (w : World), LD w qd st F → LG w ql qd g G → (∀ k, F k → ¬ G k) → FineW st → st.off = false → -9223372036854775808 ≤ n → n ≤ 9223372036854775807 →
    Calls Try.prog 12 #[dptr ql, .int .i64 n] w fun e w' => ∃ F' G' g2 v, e = .returned (.tuple #[v, .int .i64 (Wq.at_ g st n).2.1]) ∧ Bs w' v (Wq.at_ g st n).1 ∧ Apart F' v (Wq.at_ g st n).1 ∧ Apart G' v (Wq.at_ g st n).1 ∧
      LD w' qd st F' ∧ LG w' ql qd g2 G' ∧ Wq.Like g2 (Wq.at_ g st n).2.2 st ∧ (∀ k, F' k → ¬ G' k) ∧ Moved w w' (both F G) (both F' G')
  cutTo : ∀ (ql qd : Nat) (g : Wq.Lg) (st : Dq.St) (F G : Nat → Prop) (n : Int) (w : World), LD w qd st F → LG w ql qd g G → (∀ k, F k → ¬ G k) → FineW st → st.off = false → -9223372036854775808 ≤ n → n ≤ 9223372036854775807 →
    Calls Try.prog 13 #[dptr ql, .int .i64 n] w fun e w' => e = .returned (.int .i64 (Wq.cutTo g st n).1) ∧ Post8 LD LG w ql qd F G (Wq.cutTo g st n).2.1 (Wq.cutTo g st n).2.2 w'
  restart : ∀ (ql qd : Nat) (g : Wq.Lg) (st : Dq.St) (F G : Nat → Prop) (n : Int) (w : World), LD w qd st F → LG w ql qd g G → (∀ k, F k → ¬ G k) → FineW st → st.off = false → -9223372036854775808 ≤ n → n ≤ 9223372036854775807 →
    Calls Try.prog 14 #[dptr ql, .int .i64 n] w fun e w' => e = .returned (.int .i64 (Wq.restart g st n).1) ∧ Post8 LD LG w ql qd F G (Wq.restart g st n).2.1 (Wq.restart g st n).2.2 w'

/-- A disk of the statement's own, and a log on it. -/
structure Duo (LD : Rep) (LG : RepG) (W w : World) (qd : Nat) (st : Dq.St) (F : Nat → Prop) (ql : Nat) (g : Wq.Lg) (G : Nat → Prop) : Prop where
  mine : Mine LD W w qd st F
  lg : LG w ql qd g G
  hi : ∀ k, G k → W.heap.size ≤ k
  ap : ∀ k, F k → ¬ G k

section
variable {LD : Rep} {LG : RepG} {W w w' : World} {qd ql : Nat} {st st' : Dq.St} {F F' G G' : Nat → Prop} {g g' : Wq.Lg}

theorem Moved.both_l (h : Moved w w' F F') : Moved w w' (both F G) (both F' G) := ⟨h.os, h.tape, h.output, h.size, fun k hk hF => h.block k hk (fun e => hF (Or.inl e)), fun k hk => by
  rcases hk with hk | hk
  · rcases h.sub k hk with h1 | h1
    · exact Or.inl (Or.inl h1)
    · exact Or.inr h1
  · exact Or.inl (Or.inr hk)⟩

theorem Duo.step (h : Duo LD LG W w qd st F ql g G) (hp : Post8 LD LG w ql qd F G g' st' w') (hf : Fine st') : ∃ F' G' g2, Duo LD LG W w' qd st' F' ql g2 G' ∧ Wq.Like g2 g' st' ∧ Moved w w' (both F G) (both F' G') := by
  obtain ⟨F', G', g2, h1, h2, h3, h4, h5⟩ := hp
  have hs := h.mine.below.size
  have hlo : ∀ k, both F G k → W.heap.size ≤ k := fun k hk => hk.elim (h.mine.hi k) (h.hi k)
  have hhi : ∀ k, both F' G' k → W.heap.size ≤ k := fun k hk => by
    rcases h5.sub k hk with e | e
    · exact hlo k e
    · omega
  exact ⟨F', G', g2, ⟨⟨h1, hf, fun k hk => hhi k (Or.inl hk), h.mine.below.trans (h5.below hs hlo)⟩, h2, fun k hk => hhi k (Or.inr hk), h4⟩, h3, h5⟩

/-- A call that leaves a log that answers. -/
theorem Duo.stepOk (h : Duo LD LG W w qd st F ql g G) (hp : Post8 LD LG w ql qd F G g' st' w') (hf : Fine st') (ho : Wq.off g' st' = false) : ∃ F' G', Duo LD LG W w' qd st' F' ql g' G' ∧ Moved w w' (both F G) (both F' G') := by
  obtain ⟨F', G', g2, h1, h2, h3⟩ := h.step hp hf
  rw [h2.eq ho] at h1
  exact ⟨F', G', h1, h3⟩

/-- The disk has moved by itself. -/
theorem Duo.disk (S : Specs8 LD LG) (h : Duo LD LG W w qd st F ql g G) (hm : Mine LD W w' qd st' F') (hv : Moved w w' F F') : Duo LD LG W w' qd st' F' ql g G := by
  refine ⟨hm, S.keep h.lg (fun k hk => hv.block k (S.lt h.lg hk) (fun e => h.ap k e hk)), h.hi, fun k hF hG => ?_⟩
  rcases hv.sub k hF with e | e
  · exact h.ap k e hG
  · have := S.lt h.lg hG
    omega

/-- Memory was made. -/
theorem Duo.later (S7 : Specs7 LD) (S : Specs8 LD LG) (h : Duo LD LG W w qd st F ql g G) (hb : Below w.heap.size w w') : Duo LD LG W w' qd st F ql g G := h.disk S (h.mine.later S7 hb) (Moved.of_below F hb)

/-- Bytes of the statement's arguments. -/
theorem Duo.arg (h : Duo LD LG W w qd st F ql g G) {v : Value} {xs : List UInt8} (hv : Bs W v xs) : Bs w v xs ∧ Apart F v xs ∧ Apart G v xs := by
  obtain ⟨h1, h2⟩ := h.mine.arg hv
  refine ⟨h1, h2, fun h0 k hk hG => ?_⟩
  have h3 := h.hi k hG
  obtain ⟨g, o, n, c, rfl, _, _, hc⟩ := hv.plain h0
  have hlt := World.block_lt_of_cell? W _ (hc 0 xs[0] (List.getElem?_eq_getElem h0))
  simp only [Value.ownBlock, Option.some.injEq] at hk
  subst hk
  exact absurd hlt (by simpa using h3)
end
end Go.Proofs.Ytmbpkbdaakchiaa
