/- The calls of a disk that a statement has made. -/
import Derived.Test.YtmbpkbdaakchiaaSpecs7
namespace Go.Proofs.Ytmbpkbdaakchiaa
open Go.RowKit

theorem Mine.append {LD : Rep} (S : Specs7 LD) {W w : World} {q : Nat} {st : Dq.St} {F : Nat → Prop} (h : Mine LD W w q st F) (s : ByteArray) (v : Value) (b : List UInt8) (hv : Bs w v b) (hb : b.length ≤ 1000) (ha : Apart F v b) (hl : st.fs.length ≤ 999) (e : Int) (st' : Dq.St) (he : Dq.append st s b = (e, st')) :
    Calls Try.prog 20 #[dptr q, .string s, v] w fun ed w' => ∃ F', ed = .returned (.int .i64 e) ∧ Mine LD W w' q st' F' ∧ Moved w w' F F' := by
  refine (S.append q st F s v b w h.ld h.fine hv hb ha).mono ?_
  rintro ed w' ⟨F', rfl, hl', hm⟩
  have hf := fine_append h.fine s b hl
  rw [he] at hl' hf ⊢
  exact ⟨F', rfl, h.step hl' hf hm, hm⟩

theorem Mine.sync {LD : Rep} (S : Specs7 LD) {W w : World} {q : Nat} {st : Dq.St} {F : Nat → Prop} (h : Mine LD W w q st F) (s : ByteArray)  (e : Int) (st' : Dq.St) (he : Dq.sync st s = (e, st')) :
    Calls Try.prog 34 #[dptr q, .string s] w fun ed w' => ∃ F', ed = .returned (.int .i64 e) ∧ Mine LD W w' q st' F' ∧ Moved w w' F F' := by
  refine (S.sync q st F s w h.ld h.fine).mono ?_
  rintro ed w' ⟨F', rfl, hl', hm⟩
  have hf := fine_sync h.fine s
  rw [he] at hl' hf ⊢
  exact ⟨F', rfl, h.step hl' hf hm, hm⟩

theorem Mine.cut {LD : Rep} (S : Specs7 LD) {W w : World} {q : Nat} {st : Dq.St} {F : Nat → Prop} (h : Mine LD W w q st F) (s : ByteArray) (n : Int)  (e : Int) (st' : Dq.St) (he : Dq.cut st s n = (e, st')) :
    Calls Try.prog 25 #[dptr q, .string s, .int .i64 n] w fun ed w' => ∃ F', ed = .returned (.int .i64 e) ∧ Mine LD W w' q st' F' ∧ Moved w w' F F' := by
  refine (S.cut q st F s n w h.ld h.fine).mono ?_
  rintro ed w' ⟨F', rfl, hl', hm⟩
  have hf := fine_cut h.fine s n
  rw [he] at hl' hf ⊢
  exact ⟨F', rfl, h.step hl' hf hm, hm⟩

theorem Mine.rename {LD : Rep} (S : Specs7 LD) {W w : World} {q : Nat} {st : Dq.St} {F : Nat → Prop} (h : Mine LD W w q st F) (s t : ByteArray) (hl : st.fs.length ≤ 999) (e : Int) (st' : Dq.St) (he : Dq.rename st s t = (e, st')) :
    Calls Try.prog 45 #[dptr q, .string s, .string t] w fun ed w' => ∃ F', ed = .returned (.int .i64 e) ∧ Mine LD W w' q st' F' ∧ Moved w w' F F' := by
  refine (S.rename q st F s t w h.ld h.fine).mono ?_
  rintro ed w' ⟨F', rfl, hl', hm⟩
  have hf := fine_rename h.fine s t hl
  rw [he] at hl' hf ⊢
  exact ⟨F', rfl, h.step hl' hf hm, hm⟩

theorem Mine.drop {LD : Rep} (S : Specs7 LD) {W w : World} {q : Nat} {st : Dq.St} {F : Nat → Prop} (h : Mine LD W w q st F) (s : ByteArray)  (e : Int) (st' : Dq.St) (he : Dq.drop st s = (e, st')) :
    Calls Try.prog 43 #[dptr q, .string s] w fun ed w' => ∃ F', ed = .returned (.int .i64 e) ∧ Mine LD W w' q st' F' ∧ Moved w w' F F' := by
  refine (S.drop q st F s w h.ld h.fine).mono ?_
  rintro ed w' ⟨F', rfl, hl', hm⟩
  have hf := fine_drop h.fine s
  rw [he] at hl' hf ⊢
  exact ⟨F', rfl, h.step hl' hf hm, hm⟩

theorem Mine.crash {LD : Rep} (S : Specs7 LD) {W w : World} {q : Nat} {st : Dq.St} {F : Nat → Prop} (h : Mine LD W w q st F) (keep : Int) (h1 : -9223372036854775808 ≤ keep) (h2 : keep ≤ 9223372036854775807) (st' : Dq.St) (he : Dq.crash st keep = st') :
    Calls Try.prog 16 #[dptr q, .int .i64 keep] w fun ed w' => ∃ F', ed = .returned (.tuple #[]) ∧ Mine LD W w' q st' F' ∧ Moved w w' F F' := by
  refine (S.crash q st F keep w h.ld h.fine h1 h2).mono ?_
  rintro ed w' ⟨F', rfl, hl', hm⟩
  have hf := fine_crash h.fine keep
  rw [he] at hl' hf
  exact ⟨F', rfl, h.step hl' hf hm, hm⟩

theorem Mine.on {LD : Rep} (S : Specs7 LD) {W w : World} {q : Nat} {st : Dq.St} {F : Nat → Prop} (h : Mine LD W w q st F) (hl : st.lives ≤ 999) (st' : Dq.St) (he : Dq.on st = st') :
    Calls Try.prog 18 #[dptr q] w fun ed w' => ∃ F', ed = .returned (.tuple #[]) ∧ Mine LD W w' q st' F' ∧ Moved w w' F F' := by
  refine (S.on q st F w h.ld h.fine).mono ?_
  rintro ed w' ⟨F', rfl, hl', hm⟩
  have hf := fine_on h.fine hl
  rw [he] at hl' hf
  exact ⟨F', rfl, h.step hl' hf hm, hm⟩

theorem Mine.read {LD : Rep} (S : Specs7 LD) {W w : World} {q : Nat} {st : Dq.St} {F : Nat → Prop} (h : Mine LD W w q st F) (s : ByteArray) (xs : List UInt8) (e : Int) (he : Dq.read st s = (xs, e)) :
    Calls Try.prog 22 #[dptr q, .string s] w fun ed w' => ∃ F' v, ed = .returned (.tuple #[v, .int .i64 e]) ∧ Bs w' v xs ∧ Apart F' v xs ∧ Mine LD W w' q st F' ∧ Moved w w' F F' := by
  refine (S.read q st F s w h.ld h.fine).mono ?_
  rintro ed w' ⟨F', v, rfl, hb, ha, hl', hm⟩
  rw [he] at hb ha ⊢
  exact ⟨F', v, rfl, hb, ha, h.step hl' h.fine hm, hm⟩




theorem Mine.lives {LD : Rep} (S : Specs7 LD) {W w : World} {q : Nat} {st : Dq.St} {F : Nat → Prop} (h : Mine LD W w q st F) (n : Nat) (he : st.lives = n) :
    Calls Try.prog 26 #[dptr q] w fun ed w' => ∃ F', ed = .returned (.int .i64 (n : Int)) ∧ Mine LD W w' q st F' ∧ Moved w w' F F' := by
  refine (S.lives q st F w h.ld h.fine).mono ?_
  rintro ed w' ⟨F', rfl, hl', hm⟩
  rw [he]
  exact ⟨F', rfl, h.step hl' h.fine hm, hm⟩

theorem mine_new {LD : Rep} (S : Specs7 LD) {W w : World} (hW : Below W.heap.size W w) (n : Nat) (hn : 64 ≤ n ∧ n ≤ 1048576) :
    Calls Try.prog 9 #[.int .i64 (n : Int)] w fun ed w' => ∃ q F, ed = .returned (.tuple #[dptr q, .int .i64 0]) ∧ Mine LD W w' q ⟨n, [], false, 1⟩ F := by
  refine (S.new (n : Int) w).mono ?_
  rintro ed w' ⟨hb, he⟩
  rw [if_neg (by omega)] at he
  obtain ⟨q, F, rfl, hl, hF⟩ := he
  rw [Int.toNat_natCast] at hl
  have hs := hW.size
  exact ⟨q, F, rfl, ⟨hl, fine_new hn, fun k hk => by have := hF k hk; omega, hW.trans (hb.mono hs)⟩⟩

theorem mine_none {LD : Rep} (S : Specs7 LD) {W w : World} (hW : Below W.heap.size W w) (n : Int) (hn : n < 64 ∨ 1048576 < n) :
    Calls Try.prog 9 #[.int .i64 n] w fun ed w' => ed = .returned (.tuple #[.pointer none, .int .i64 1]) ∧ Below W.heap.size W w' := by
  refine (S.new n w).mono ?_
  rintro ed w' ⟨hb, he⟩
  rw [if_pos hn] at he
  exact ⟨he, hW.trans (hb.mono hW.size)⟩

/-- Bytes that were just written down. -/
theorem Mine.fresh {LD : Rep} (S : Specs7 LD) {W w : World} {q : Nat} {st : Dq.St} {F : Nat → Prop} (h : Mine LD W w q st F) (xs : List UInt8) (t : TypeId) (fz : Nat × Nat) :
    Mine LD W (w.alloc (.cells (bc xs).toArray t fz)) q st F ∧ Bs (w.alloc (.cells (bc xs).toArray t fz)) (.slice (some ⟨w.heap.size, 0, none⟩) xs.length xs.length) xs ∧ Apart F (.slice (some ⟨w.heap.size, 0, none⟩) xs.length xs.length) xs := by
  refine ⟨h.later S ((Below.refl _ w).alloc (Nat.le_refl _) _), Bs.made w xs t _, fun _ k hk hF => ?_⟩
  have := S.lt h.ld hF
  simp only [Value.ownBlock, Option.some.injEq] at hk
  omega
end Go.Proofs.Ytmbpkbdaakchiaa
