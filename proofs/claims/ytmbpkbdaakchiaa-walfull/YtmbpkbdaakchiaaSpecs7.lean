/- What disk's calls are asked to answer, whatever the disk is made of (to be proved of the landed code). -/
import Derived.Test.YtmbpkbdaakchiaaPlainD7
namespace Go.Proofs.Ytmbpkbdaakchiaa
open Go.RowKit

/-- What is changed lies in the blocks F, or is new; what F has become. -/
structure Moved (w w' : World) (F F' : Nat → Prop) : Prop where
  os : w'.os = w.os
  tape : w'.tape = w.tape
  output : w'.output = w.output
  size : w.heap.size ≤ w'.heap.size
  block : ∀ k, k < w.heap.size → ¬ F k → w'.heap[k]? = w.heap[k]?
  sub : ∀ k, F' k → F k ∨ w.heap.size ≤ k

theorem Moved.refl (w : World) (F : Nat → Prop) : Moved w w F F := ⟨rfl, rfl, rfl, Nat.le_refl _, fun _ _ _ => rfl, fun _ h => Or.inl h⟩
theorem Moved.of_below {w w' : World} (F : Nat → Prop) (h : Below w.heap.size w w') : Moved w w' F F := ⟨h.os, h.tape, h.output, h.size, fun k hk _ => h.block k hk, fun _ h => Or.inl h⟩
theorem Moved.below {w w' : World} {F F' : Nat → Prop} {B : Nat} (h : Moved w w' F F') (hB : B ≤ w.heap.size) (hF : ∀ k, F k → B ≤ k) : Below B w w' :=
  ⟨h.os, h.tape, h.output, h.size, fun k hk => h.block k (by omega) (fun e => by have := hF k e; omega)⟩

theorem Moved.trans {w w1 w2 : World} {F F1 F2 : Nat → Prop} (h : Moved w w1 F F1) (k : Moved w1 w2 F1 F2) : Moved w w2 F F2 := by
  have hs := h.size
  refine ⟨k.os.trans h.os, k.tape.trans h.tape, k.output.trans h.output, Nat.le_trans h.size k.size, fun j hj hF => ?_, fun j hj => ?_⟩
  · refine (k.block j (by omega) (fun e => ?_)).trans (h.block j hj hF)
    rcases h.sub j e with h1 | h1
    · exact hF h1
    · omega
  · rcases k.sub j hj with h1 | h1
    · exact h.sub j h1
    · exact Or.inr (by omega)

/-- Bytes that lie elsewhere. -/
theorem Bs.moved {w w' : World} {F F' : Nat → Prop} {v : Value} {xs : List UInt8} (h : Bs w v xs) (hm : Moved w w' F F') (ha : 0 < xs.length → ∀ k, v.ownBlock = some k → ¬ F k) : Bs w' v xs := by
  obtain ⟨ao, n, c, rfl, hn, hs⟩ := h
  refine ⟨ao, n, c, rfl, hn, hs.cap, hs.nil, fun ad had j u hu => ?_⟩
  have hc := hs.cells ad had j u hu
  have h0 : 0 < xs.length := by
    have := (List.getElem?_eq_some_iff.1 hu).1
    rw [bc_len] at this
    omega
  have hb : (ad.add j).block = ad.block := by simp only [Addr.add]; split <;> rfl
  have hlt := World.block_lt_of_cell? w _ hc
  refine (World.cell?_of_block (hm.block _ hlt (ha h0 _ ?_))).trans hc
  rw [hb, had]
  rfl

/-- A representation of disks: in a world, at an address, this state, in these blocks. -/
abbrev Rep := World → Nat → Dq.St → (Nat → Prop) → Prop

/-- A disk's pointer. -/
abbrev dptr (q : Nat) : Value := .pointer (some ⟨q, 0, none⟩)

/-- Not too many files or lives. -/
def Fine (st : Dq.St) : Prop := Dq.Ok st ∧ st.fs.length ≤ 1000 ∧ st.lives ≤ 1000

/-- Bytes that lie apart from blocks. -/
def Apart (F : Nat → Prop) (v : Value) (xs : List UInt8) : Prop := 0 < xs.length → ∀ k, v.ownBlock = some k → ¬ F k

structure Specs7 (LD : Rep) : Prop where
  lt : ∀ {w q st F k}, LD w q st F → F k → k < w.heap.size
  keep : ∀ {w w' : World} {q st F}, LD w q st F → (∀ k, F k → w'.heap[k]? = w.heap[k]?) → LD w' q st F
  new : ∀ (n : Int) (w : World), Calls Try.prog 9 #[.int .i64 n] w fun e w' => Below w.heap.size w w' ∧
    if n < 64 ∨ 1048576 < n then e = .returned (.tuple #[.pointer none, .int .i64 1]) else ∃ q F, e = .returned (.tuple #[dptr q, .int .i64 0]) ∧ LD w' q ⟨n.toNat, [], false, 1⟩ F ∧ ∀ k, F k → w.heap.size ≤ k
  append : ∀ (q : Nat) (st : Dq.St) (F : Nat → Prop) (s : ByteArray) (v : Value) (b : List UInt8) (w : World), LD w q st F → Fine st → Bs w v b → b.length ≤ 1000 → Apart F v b →
    Calls Try.prog 20 #[dptr q, .string s, v] w fun e w' => ∃ F', e = .returned (.int .i64 (Dq.append st s b).1) ∧ LD w' q (Dq.append st s b).2 F' ∧ Moved w w' F F'
  sync : ∀ (q : Nat) (st : Dq.St) (F : Nat → Prop) (s : ByteArray) (w : World), LD w q st F → Fine st →
    Calls Try.prog 34 #[dptr q, .string s] w fun e w' => ∃ F', e = .returned (.int .i64 (Dq.sync st s).1) ∧ LD w' q (Dq.sync st s).2 F' ∧ Moved w w' F F'
  read : ∀ (q : Nat) (st : Dq.St) (F : Nat → Prop) (s : ByteArray) (w : World), LD w q st F → Fine st →
    Calls Try.prog 22 #[dptr q, .string s] w fun e w' => ∃ F' v, e = .returned (.tuple #[v, .int .i64 (Dq.read st s).2]) ∧ Bs w' v (Dq.read st s).1 ∧ Apart F' v (Dq.read st s).1 ∧ LD w' q st F' ∧ Moved w w' F F'
  cut : ∀ (q : Nat) (st : Dq.St) (F : Nat → Prop) (s : ByteArray) (n : Int) (w : World), LD w q st F → Fine st →
    Calls Try.prog 25 #[dptr q, .string s, .int .i64 n] w fun e w' => ∃ F', e = .returned (.int .i64 (Dq.cut st s n).1) ∧ LD w' q (Dq.cut st s n).2 F' ∧ Moved w w' F F'
  rename : ∀ (q : Nat) (st : Dq.St) (F : Nat → Prop) (s t : ByteArray) (w : World), LD w q st F → Fine st →
    Calls Try.prog 45 #[dptr q, .string s, .string t] w fun e w' => ∃ F', e = .returned (.int .i64 (Dq.rename st s t).1) ∧ LD w' q (Dq.rename st s t).2 F' ∧ Moved w w' F F'
  drop : ∀ (q : Nat) (st : Dq.St) (F : Nat → Prop) (s : ByteArray) (w : World), LD w q st F → Fine st →
    Calls Try.prog 43 #[dptr q, .string s] w fun e w' => ∃ F', e = .returned (.int .i64 (Dq.drop st s).1) ∧ LD w' q (Dq.drop st s).2 F' ∧ Moved w w' F F'
  crash : ∀ (q : Nat) (st : Dq.St) (F : Nat → Prop) (keep : Int) (w : World), LD w q st F → Fine st → -9223372036854775808 ≤ keep → keep ≤ 9223372036854775807 →
    Calls Try.prog 16 #[dptr q, .int .i64 keep] w fun e w' => ∃ F', e = .returned (.tuple #[]) ∧ LD w' q (Dq.crash st keep) F' ∧ Moved w w' F F'
  on : ∀ (q : Nat) (st : Dq.St) (F : Nat → Prop) (w : World), LD w q st F → Fine st →
    Calls Try.prog 18 #[dptr q] w fun e w' => ∃ F', e = .returned (.tuple #[]) ∧ LD w' q (Dq.on st) F' ∧ Moved w w' F F'
  lives : ∀ (q : Nat) (st : Dq.St) (F : Nat → Prop) (w : World), LD w q st F → Fine st →
    Calls Try.prog 26 #[dptr q] w fun e w' => ∃ F', e = .returned (.int .i64 (st.lives : Int)) ∧ LD w' q st F' ∧ Moved w w' F F'

/-- A disk that a statement has made: its blocks are the statement's own. -/
structure Mine (LD : Rep) (W w : World) (q : Nat) (st : Dq.St) (F : Nat → Prop) : Prop where
  ld : LD w q st F
  fine : Fine st
  hi : ∀ k, F k → W.heap.size ≤ k
  below : Below W.heap.size W w

theorem Mine.step {LD : Rep} {W w w' : World} {q : Nat} {st st' : Dq.St} {F F' : Nat → Prop} (h : Mine LD W w q st F) (hl : LD w' q st' F') (hf : Fine st') (hm : Moved w w' F F') : Mine LD W w' q st' F' := by
  have hs := h.below.size
  refine ⟨hl, hf, fun k hk => ?_, h.below.trans (hm.below hs h.hi)⟩
  rcases hm.sub k hk with h1 | h1
  · exact h.hi k h1
  · omega

theorem Mine.later {LD : Rep} (S : Specs7 LD) {W w w' : World} {q : Nat} {st : Dq.St} {F : Nat → Prop} (h : Mine LD W w q st F) (hb : Below w.heap.size w w') : Mine LD W w' q st F :=
  h.step (S.keep h.ld fun k hk => hb.block k (S.lt h.ld hk)) h.fine (Moved.of_below F hb)

/-- Bytes of the statement's arguments. -/
theorem Mine.arg {LD : Rep} {W w : World} {q : Nat} {st : Dq.St} {F : Nat → Prop} (h : Mine LD W w q st F) {v : Value} {xs : List UInt8} (hv : Bs W v xs) : Bs w v xs ∧ Apart F v xs := by
  refine ⟨hv.below h.below, fun h0 k hk hF => ?_⟩
  have h1 := h.hi k hF
  obtain ⟨g, o, n, c, rfl, _, _, hc⟩ := hv.plain h0
  have hlt := World.block_lt_of_cell? W _ (hc 0 xs[0] (List.getElem?_eq_getElem h0))
  simp only [Value.ownBlock, Option.some.injEq] at hk
  subst hk
  exact absurd hlt (by simpa using h1)

/-- Bytes that lie apart stay, and stay apart. -/
theorem Apart.moved {w w' : World} {F F' : Nat → Prop} {v : Value} {xs : List UInt8} (h : Apart F v xs) (hb : Bs w v xs) (hm : Moved w w' F F') : Bs w' v xs ∧ Apart F' v xs := by
  refine ⟨hb.moved hm h, fun h0 k hk hF => ?_⟩
  rcases hm.sub k hF with h1 | h1
  · exact h h0 k hk h1
  · obtain ⟨g, o, n, c, rfl, _, _, hc⟩ := hb.plain h0
    have hlt := World.block_lt_of_cell? w _ (hc 0 xs[0] (List.getElem?_eq_getElem h0))
    simp only [Value.ownBlock, Option.some.injEq] at hk
    subst hk
    exact absurd hlt (by simpa using h1)

theorem Apart.later {w w' : World} {F : Nat → Prop} {v : Value} {xs : List UInt8} (h : Apart F v xs) (hb : Bs w v xs) (hm : Below w.heap.size w w') : Bs w' v xs ∧ Apart F v xs := ⟨hb.below hm, h⟩

theorem fine_append {st : Dq.St} (h : Fine st) (s : ByteArray) (b : List UInt8) (hl : st.fs.length ≤ 999) : Fine (Dq.append st s b).2 := by
  refine ⟨Dq.ok_append h.1 s b, ?_, ?_⟩
  · have := h.2.1
    unfold Dq.append
    split
    · exact this
    split
    · exact this
    split
    · simp only [Dq.len_lay]; omega
    · simp only [Dq.len_upd]; exact this
  · have := h.2.2
    unfold Dq.append
    split
    · exact this
    split
    · exact this
    split <;> exact this
theorem fine_sync {st : Dq.St} (h : Fine st) (s : ByteArray) : Fine (Dq.sync st s).2 := by
  refine ⟨Dq.ok_sync h.1 s, ?_, ?_⟩
  · have := h.2.1
    unfold Dq.sync
    split
    · simp only [Dq.len_upd]; exact this
    · exact this
  · have := h.2.2
    unfold Dq.sync
    split <;> exact this
theorem fine_crash {st : Dq.St} (h : Fine st) (k : Int) : Fine (Dq.crash st k) := ⟨Dq.ok_crash h.1 k, by simpa [Dq.crash] using h.2.1, h.2.2⟩
theorem fine_on {st : Dq.St} (h : Fine st) (hl : st.lives ≤ 999) : Fine (Dq.on st) := ⟨Dq.ok_on h.1, h.2.1, by simp only [Dq.on]; omega⟩
theorem fine_new {n : Nat} (h : 64 ≤ n ∧ n ≤ 1048576) : Fine ⟨n, [], false, 1⟩ := ⟨Dq.ok_new n h, Nat.zero_le _, by simp⟩
theorem fine_drop {st : Dq.St} (h : Fine st) (s : ByteArray) : Fine (Dq.drop st s).2 := by
  refine ⟨Dq.ok_drop h.1 s, ?_, ?_⟩
  · have h1 := h.2.1
    have h2 := Dq.len_del s st.fs
    unfold Dq.drop
    split
    · simp only []; omega
    · exact h1
  · have := h.2.2
    unfold Dq.drop
    split <;> exact this
theorem fine_cut {st : Dq.St} (h : Fine st) (s : ByteArray) (n : Int) : Fine (Dq.cut st s n).2 := by
  refine ⟨Dq.ok_cut h.1 s n, ?_, ?_⟩
  · have := h.2.1
    unfold Dq.cut
    split
    · split
      · exact this
      · simp only [Dq.len_upd]; exact this
    · exact this
  · have := h.2.2
    unfold Dq.cut
    split
    · split <;> exact this
    · exact this
theorem fine_rename {st : Dq.St} (h : Fine st) (s t : ByteArray) (hl : st.fs.length ≤ 999) : Fine (Dq.rename st s t).2 := by
  refine ⟨Dq.ok_rename h.1 s t, ?_, ?_⟩
  · have h1 := h.2.1
    have h2 := Dq.len_del s st.fs
    have h3 := Dq.len_del t (Dq.del s st.fs)
    unfold Dq.rename
    split
    · exact h1
    split
    · exact h1
    cases Dq.get s st.fs with
    | none => exact h1
    | some f =>
      simp only []
      split
      · exact h1
      · simp only [Dq.len_lay]; omega
  · have := h.2.2
    unfold Dq.rename
    split
    · exact this
    split
    · exact this
    cases Dq.get s st.fs with
    | none => exact this
    | some f =>
      simp only []
      split <;> exact this
end Go.Proofs.Ytmbpkbdaakchiaa
