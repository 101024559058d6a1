/- Bytes, numbers and texts wherever they lie; appending. No package of the program is named. What a call changes, told by blocks. A block of cells, whole. Texts that a call owns, and texts behind them. Drawn regions that end in a store: what their reads see is held till that store. Drawn regions that end in several stores: what their reads see is held till the first of these comes up. Drawn regions by hand: an operation is taken first. A block that is written as a whole. A part of a block, read and written as a whole. Truths, wherever they lie. -/
import Derived.Test.YtboejbjobjhajaaGreatDoorProg
import Derived.WalkKit
import Derived.WalkSpells
import Derived.WalkLawsBesides
import Derived.OwnWalk
import Derived.Lib.BufSteps
import Derived.Laws.AppendOwnNone
import Derived.Deep.Onto
import Derived.Laws.OwnMore
import Derived.Deep.AppendLies
import Derived.Deep.RegionHeld3
import Derived.Laws.Tables
import Derived.Laws.Rows
namespace Go.Proofs.YtboejbjobjhajaaGreatDoor
open Go.RowKit

theorem Below.kept {w w' : World} (h : Below w.heap.size w w') {p : Addr} {v : Value} (hc : w.cell? p = some v) : w'.cell? p = some v := by
  rw [h.cell (World.block_lt_of_cell? w p hc)]; exact hc

theorem grownBy_trans {w w1 w2 : World} {row : Option Nat} (h : w.grownBy w1 row) (k : w1.grownBy w2 row) : w.grownBy w2 row :=
  ⟨k.os.trans h.os, k.tape.trans h.tape, k.output.trans h.output, Nat.le_trans h.size k.size, fun i hi hne => (k.block i (Nat.lt_of_lt_of_le hi h.size) hne).trans (h.block i hi hne)⟩

theorem grownBy_setCell (w : World) (a : Addr) (u : Value) : w.grownBy (w.setCell a u) (some a.block) :=
  ⟨rfl, rfl, rfl, by simp [World.setCell], fun k _ hne => Below.heap_setCell _ _ _ _ (by simpa using hne)⟩

theorem grownBy_below {w w' : World} {row : Option Nat} (h : Below w.heap.size w w') : w.grownBy w' row := ⟨h.os, h.tape, h.output, h.size, fun k hk _ => h.block k hk⟩

def Ss (w : World) (u : Value) (ss : List ByteArray) : Prop := ∃ av k c, u = .slice av k c ∧ k = ss.length ∧ ∀ (j : Nat) s, ss[j]? = some s → ∃ g o, av = some ⟨g, o, none⟩ ∧ w.cell? ⟨g, o + j, none⟩ = some (.string s)

theorem Ss.below {w w' : World} {v : Value} {ss : List ByteArray} (h : Ss w v ss) (hb : Below w.heap.size w w') : Ss w' v ss := by
  obtain ⟨av, k, c, hv, hk, hc⟩ := h
  refine ⟨av, k, c, hv, hk, fun j z hz => ?_⟩
  obtain ⟨g, o, ha, hcell⟩ := hc j z hz
  exact ⟨g, o, ha, Below.kept hb hcell⟩

theorem Below.reader {B q : Nat} {w w1 w2 : World} (h : Below B w w1) (hg : w1.grownBy w2 (some q)) (hB : B ≤ w.heap.size) (hq : B ≤ q) : Below B w w2 :=
  h.grown hg (Nat.le_trans hB h.size) (fun k hk => by simp at hk; omega)

theorem ret_bool {a b : Bool} (h : a = b) : Ending.returned (.bool a) = .returned (.bool b) := by rw [h]

theorem bytes_eq {a b : ByteArray} (h : (a.toList == b.toList) = true) : a = b := by
  have h1 : a.toList = b.toList := by simpa using h
  rw [ByteArray.toList_eq, ByteArray.toList_eq] at h1
  exact ByteArray.ext (Array.toList_inj.1 h1)

theorem grownBy_drew (w : World) (row : Option Nat) : w.grownBy w.drew row := ⟨rfl, rfl, rfl, Nat.le_refl _, fun _ _ _ => rfl⟩

theorem below_drewN {B : Nat} {w wr : World} (h : Below B w wr) (q : Nat) : Below B w (wr.drewN q) := ⟨h.os, h.tape, h.output, h.size, h.block⟩

theorem cell?_alloc_at (w : World) (cs : Array Value) (t : TypeId) (fz : Nat × Nat) (j : Nat) (v : Value) (h : cs[j]? = some v) : (w.alloc (.cells cs t fz)).cell? ⟨w.heap.size, j, none⟩ = some v := by
  simp only [World.cell?, World.alloc, Array.getElem?_push, if_true]
  simpa using h

end Go.Proofs.YtboejbjobjhajaaGreatDoor
namespace Go.Proofs.YtboejbjobjhajaaGreatDoor
open Go.RowKit

structure Moved (w w' : World) (F F' : Nat → Prop) : Prop where
  os : w'.os = w.os
  tape : w'.tape = w.tape
  output : w'.output = w.output
  size : w.heap.size ≤ w'.heap.size
  block : ∀ k, k < w.heap.size → ¬ F k → w'.heap[k]? = w.heap[k]?
  sub : ∀ k, F' k → F k ∨ w.heap.size ≤ k

theorem Moved.refl (w : World) (F : Nat → Prop) : Moved w w F F := ⟨rfl, rfl, rfl, Nat.le_refl _, fun _ _ _ => rfl, fun _ h => Or.inl h⟩
theorem Moved.of_below {w w' : World} (F : Nat → Prop) (h : Below w.heap.size w w') : Moved w w' F F := ⟨h.os, h.tape, h.output, h.size, fun k hk _ => h.block k hk, fun _ h => Or.inl h⟩
theorem Moved.below {w w' : World} {F F' : Nat → Prop} {B : Nat} (h : Moved w w' F F') (hB : B ≤ w.heap.size) (hF : ∀ k, F k → B ≤ k) : Below B w w' :=
  ⟨h.os, h.tape, h.output, h.size, fun k hk => h.block k (by omega) (fun e => by have := hF k e; omega)⟩

theorem Moved.trans {w w1 w2 : World} {F F1 F2 : Nat → Prop} (h : Moved w w1 F F1) (k : Moved w1 w2 F1 F2) : Moved w w2 F F2 := by
  have hs := h.size
  refine ⟨k.os.trans h.os, k.tape.trans h.tape, k.output.trans h.output, Nat.le_trans h.size k.size, fun j hj hF => ?_, fun j hj => ?_⟩
  · refine (k.block j (by omega) (fun e => ?_)).trans (h.block j hj hF)
    rcases h.sub j e with h1 | h1
    · exact hF h1
    · omega
  · rcases k.sub j hj with h1 | h1
    · exact h.sub j h1
    · exact Or.inr (by omega)

abbrev dptr (q : Nat) : Value := .pointer (some ⟨q, 0, none⟩)

end Go.Proofs.YtboejbjobjhajaaGreatDoor
namespace Go.Proofs.YtboejbjobjhajaaGreatDoor
open Go.RowKit

def Cb (w : World) (k : Nat) (cs : List Value) (t : TypeId) : Prop := w.heap[k]? = some (.cells cs.toArray t (0, 0))
section
variable {w w' : World} {k : Nat} {cs : List Value} {t : TypeId}
theorem Cb.cell (h : Cb w k cs t) (i : Nat) : w.cell? ⟨k, i, none⟩ = cs[i]? := by
  unfold Cb at h
  simp [World.cell?, h]
theorem Cb.free (h : Cb w k cs t) (i : Nat) : w.frozen? ⟨k, i, none⟩ = false := by
  unfold Cb at h
  simp only [World.frozen?, h]
  rfl
theorem Cb.lt (h : Cb w k cs t) : k < w.heap.size := (Array.getElem?_eq_some_iff.1 h).1
theorem Cb.set (h : Cb w k cs t) (i : Nat) (u : Value) : Cb (w.setCell ⟨k, i, none⟩ u) k (cs.set i u) t := by
  unfold Cb at h ⊢
  simp [World.setCell, Array.getElem?_modify, h]
theorem Cb.keep (h : Cb w k cs t) (hk : w'.heap[k]? = w.heap[k]?) : Cb w' k cs t := hk.trans h
theorem Cb.below (h : Cb w k cs t) (hb : Below w.heap.size w w') : Cb w' k cs t := h.keep (hb.block k h.lt)
theorem Cb.made (w : World) (cs : List Value) (t : TypeId) : Cb (w.alloc (.cells cs.toArray t)) w.heap.size cs t := heap_alloc_new w _
theorem row_in {B n s j : Nat} {v : Value} {us : List Value} (h : w.ownsRow B t s v n us) (hk : v.ownBlock = some j) : ∃ cur, w.heap[j]? = some (.cells cur t (0, 0)) := by
  rcases h.2 with ⟨rfl, _⟩ | ⟨g, cap, cur, rfl, _, hg, _⟩
  · cases hk
  · simp only [Value.ownBlock, Option.some.injEq] at hk
    subst hk
    exact ⟨cur, hg⟩
theorem Cb.apart {t' : TypeId} (hp : Cb w k cs t) {B n s : Nat} {u : Value} {xs : List Value} (hu : w.ownsRow B t' s u n xs) (ht : t' ≠ t) : u.ownBlock ≠ some k := fun e => by
  obtain ⟨cur, hc⟩ := row_in hu e
  unfold Cb at hp
  rw [hp] at hc
  simp only [Option.some.injEq, Obj.cells.injEq] at hc
  exact ht hc.2.1.symm
theorem row_stays {B n s : Nat} {v : Value} {us : List Value} (h : w.ownsRow B t s v n us) (hk : ∀ k, v.ownBlock = some k → w'.heap[k]? = w.heap[k]?) : w'.ownsRow B t s v n us := by
  refine ⟨h.1, ?_⟩
  rcases h.2 with h1 | ⟨g, cap, cur, e, h1, h2, h3⟩
  · exact Or.inl h1
  · exact Or.inr ⟨g, cap, cur, e, h1, by rw [hk g (by rw [e]; rfl)]; exact h2, h3⟩
theorem row_form {B n s : Nat} {v : Value} {us : List Value} (h : w.ownsRow B t s v n us) : ∃ a c, v = .slice a n c ∧ n ≤ c ∧ (0 < n → ∃ g, a = some ⟨g, 0, none⟩) := by
  rcases h.2 with ⟨rfl, rfl⟩ | ⟨g, cap, cur, rfl, _, _, hn, _⟩
  · exact ⟨_, _, rfl, Nat.le_refl _, fun h => absurd h (by decide)⟩
  · exact ⟨_, _, rfl, hn, fun _ => ⟨g, rfl⟩⟩
end
end Go.Proofs.YtboejbjobjhajaaGreatDoor
namespace Go.Proofs.YtboejbjobjhajaaGreatDoor
open Go.RowKit

theorem infoText : (Tryz.prog.info? 9).map (fun i => (i.zero, i.size, i.bytes)) = some (some (.string ⟨#[]⟩), 1, 16) := by kernel_rfl
def sc (ts : List ByteArray) : List Value := ts.map Value.string
theorem sc_one (xs : List ByteArray) : ∀ u ∈ sc xs, u.oneCell' = true := by
  intro u hu
  obtain ⟨x, _, rfl⟩ := List.mem_map.1 hu
  rfl

def Src (w : World) (u : Value) (ms : List ByteArray) : Prop := (u = .slice none 0 0 ∧ ms = []) ∨ ∃ g o c, u = .slice (some ⟨g, o, none⟩) ms.length c ∧ ∀ (j : Nat) s, ms[j]? = some s → w.cell? ⟨g, o + j, none⟩ = some (.string s)
theorem Src.below {w w' : World} {u : Value} {ms : List ByteArray} (h : Src w u ms) (hb : Below w.heap.size w w') : Src w' u ms := by
  rcases h with h | ⟨g, o, c, h1, h2⟩
  · exact Or.inl h
  · exact Or.inr ⟨g, o, c, h1, fun j s hs => Below.kept hb (h2 j s hs)⟩

theorem append_strs {ops : Array Oper} {rest : List Oper} {o : Oper} {a : Act} {Q : Exit → Act → World → Prop} (hgd : o.guard = none) (s x : Operand)
    (ho : o.op = .call { callee := .builtin .append, args := #[s, x], argTypes := #[71, 71] })
    (B : Nat) (v u : Value) (ls ms : List ByteArray) (w : World) (hs : a.eval s = v) (hx : a.eval x = u) (hown : w.ownsRow B 9 1 v ls.length (sc ls)) (hB : B ≤ w.heap.size) (hb : Src w u ms) (hN : ls.length + ms.length ≤ 3000)
    (h : ∀ v' w', w'.ownsRow B 9 1 v' (ls ++ ms).length (sc (ls ++ ms)) → Below B w w' → wpList Tryz.prog ops Q rest (a.put o.dst v') w') : wpList Tryz.prog ops Q (o :: rest) a w := by
  obtain ⟨i0, hi, hz0, hz1, hz2⟩ := info_parts infoText
  rcases hb with ⟨rfl, rfl⟩ | ⟨g, ob, c, rfl, hcs⟩
  · exact wpList_append_own_none hgd s x 71 ho B 9 i0 1 Tryz.underlying71 hi v ls.length (sc ls) hs hown hx (h _ _ (by simpa using hown) (Below.refl _ w))
  · refine wpList_append_own _ hgd s x 71 ho B 9 i0 (.string ⟨#[]⟩) 1 16 Tryz.underlying71 hi hz0 hz1 hz2 rfl (by decide) v ls.length (sc ls) hs hown ⟨g, ob, none⟩ ms.length c (sc ms) hx (by simp [sc]) ?_ (sc_one ms) (by unfold maxLen; omega) (by omega) hB ?_
    · intro j y hy
      unfold sc at hy
      rw [List.getElem?_map] at hy
      cases he : ms[j]? with
      | none => rw [he] at hy; cases hy
      | some z =>
        rw [he] at hy
        obtain rfl := Option.some.inj hy
        rw [Addr.add_lit]
        exact hcs j z he
    · intro v' w' ho' hg _
      exact h v' w' (by unfold sc at ho' ⊢; rw [List.length_append, List.map_append]; exact ho') ((Below.refl _ w).grown hg hB (fun k hk => (hown.lt k hk).1))

theorem wp_strs {o : Oper} {a : Act} {K : Act → World → Prop} {Q : Exit → Act → World → Prop} (s x : Operand)
    (ho : o.op = .call { callee := .builtin .append, args := #[s, x], argTypes := #[71, 71] })
    (B : Nat) (v u : Value) (ls ms : List ByteArray) (w : World) (hs : a.eval s = v) (hx : a.eval x = u) (hown : w.ownsRow B 9 1 v ls.length (sc ls)) (hB : B ≤ w.heap.size) (hb : Src w u ms) (hN : ls.length + ms.length ≤ 3000)
    (h : ∀ v' w', w'.ownsRow B 9 1 v' (ls ++ ms).length (sc (ls ++ ms)) → Below B w w' → w.grownBy w' v.ownBlock → K (a.put o.dst v') w') : o.wp Tryz.prog a w K Q := by
  obtain ⟨i0, hi, hz0, hz1, hz2⟩ := info_parts infoText
  rcases hb with ⟨rfl, rfl⟩ | ⟨g, ob, c, rfl, hcs⟩
  · have hrun := run_append_owned_none (P := Tryz.prog) (w := w) B 71 o.type 9 i0 1 Tryz.underlying71 hi v ls.length (sc ls) hown
    have hx2 : a.eval x = .slice none 0 0 := hx
    unfold Oper.wp
    simp [execOp, ho, resolve, invoke, builtin, hs, hx2, hrun, Result.andThen]
    exact h v w (by simpa using hown) (Below.refl _ _) ⟨rfl, rfl, rfl, Nat.le_refl _, fun _ _ _ => rfl⟩
  · refine wp_append_own w s x 71 ho B 9 i0 (.string ⟨#[]⟩) 1 16 Tryz.underlying71 hi hz0 hz1 hz2 rfl (by decide) v ls.length (sc ls) hs hown ⟨g, ob, none⟩ ms.length c (sc ms) hx (by simp [sc]) ?_ (sc_one ms) (by unfold maxLen; omega) (by omega) hB ?_
    · intro j y hy
      unfold sc at hy
      rw [List.getElem?_map] at hy
      cases he : ms[j]? with
      | none => rw [he] at hy; cases hy
      | some z =>
        rw [he] at hy
        obtain rfl := Option.some.inj hy
        rw [Addr.add_lit]
        exact hcs j z he
    · intro v' w' ho' hg _
      exact h v' w' (by unfold sc at ho' ⊢; rw [List.length_append, List.map_append]; exact ho') ((Below.refl _ w).grown hg hB (fun k hk => (hown.lt k hk).1)) hg

theorem Src.one (w : World) (x : ByteArray) (t : TypeId) : Src (w.alloc (.cells #[.string x] t)) (.slice (some ⟨w.heap.size, 0, none⟩) 1 1) [x] := by
  refine Or.inr ⟨w.heap.size, 0, 1, rfl, fun j s hs => ?_⟩
  match j, hs with
  | 0, hs => simp at hs; subst hs; exact cell?_alloc_at _ _ _ _ _ _ rfl
  | (j + 1), hs => simp at hs
end Go.Proofs.YtboejbjobjhajaaGreatDoor
namespace Go.Proofs.YtboejbjobjhajaaGreatDoor
open Go.RowKit

section
variable {P : Program} {ops : Array Oper} {Q : Exit → Act → World → Prop} {md : Region.Mode} {S : World → Prop} {z : Nat}

def wpAnyT (P : Program) (md : Region.Mode) (ops : Array Oper) (Q : Exit → Act → World → Prop) (S : World → Prop) (z : Nat) : Nat → Array Bool → Act → World → Prop
  | 0, listed, a, w => Region.ready md ops listed = [] ∧ Q .normal a w
  | fuel + 1, listed, a, w =>
    (Region.ready md ops listed = [] → Q .normal a w) ∧
    ∀ i ∈ Region.ready md ops listed, wpOp P ops Q i (fun a' w' => (i ≠ z → S w') ∧ wpAnyT P md ops Q S z fuel (listed.setIfInBounds i true) a' w') a w

theorem wpAny_of_T : ∀ (fuel : Nat) (listed : Array Bool) (a : Act) (w : World), wpAnyT P md ops Q S z fuel listed a w → wpAny P md ops Q fuel listed a w
  | 0, _, _, _, h => h
  | fuel + 1, _, _, _, h => ⟨h.1, fun i hi => wpOp_mono (fun a' w' h' => wpAny_of_T fuel _ a' w' h'.2) (h.2 i hi)⟩

def waits (md : Region.Mode) (ops : Array Oper) (i : Nat) : Nat → Nat → Bool
  | 0, _ => false
  | n + 1, z => match ops[z]? with
    | some o => o.after.any fun e => Region.binds md e && (e.on == i || waits md ops i n e.on)
    | none => false

def Closed (md : Region.Mode) (ops : Array Oper) (L : Array Bool) : Prop := ∀ j o, ops[j]? = some o → L.getD j false = true → ∀ e ∈ o.after, Region.binds md e = true → L.getD e.on false = true
def closed (md : Region.Mode) (ops : Array Oper) (L : Array Bool) : Bool := (List.range ops.size).all fun j => !(L.getD j false) || match ops[j]? with
  | some o => o.after.all fun e => !(Region.binds md e) || L.getD e.on false
  | none => true

theorem closed_spec {L : Array Bool} (h : closed md ops L = true) : Closed md ops L := fun j o ho hj e he hb => by
  unfold closed at h
  have hlt := (Array.getElem?_eq_some_iff.1 ho).1
  have h1 := List.all_eq_true.1 h j (List.mem_range.2 hlt)
  rw [ho, hj] at h1
  simp only [Bool.not_true, Bool.false_or, Array.all_eq_true] at h1
  obtain ⟨k, hk, rfl⟩ := Array.mem_iff_getElem.1 he
  have h2 := h1 k hk
  rw [hb] at h2
  simpa using h2

theorem Closed.set {L : Array Bool} {j : Nat} (h : Closed md ops L) (hj : j ∈ Region.ready md ops L) : Closed md ops (L.setIfInBounds j true) := fun k o ho hk e he hb => by
  by_cases hjk : j = k
  · subst hjk
    obtain ⟨_, o', ho', hall⟩ := mem_ready.1 hj
    rw [ho] at ho'
    obtain rfl := Option.some.inj ho'
    exact getD_set_true (hall e he hb)
  · rw [getD_set_ne false hjk] at hk
    exact getD_set_true (h k o ho hk e he hb)

theorem waits_not {i : Nat} {L : Array Bool} (hc : Closed md ops L) (hL : L.getD i true = false) : ∀ (n z : Nat), waits md ops i n z = true → ¬ ∃ o, ops[z]? = some o ∧ ∀ e ∈ o.after, Region.binds md e = true → L.getD e.on false = true
  | 0, _, h => by simp [waits] at h
  | n + 1, z, h => by
    rintro ⟨o, ho, hall⟩
    unfold waits at h
    rw [ho] at h
    simp only [Array.any_eq_true] at h
    obtain ⟨k, hk, h2⟩ := h
    simp only [Bool.and_eq_true, Bool.or_eq_true, beq_iff_eq] at h2
    have h3 := hall o.after[k] (by simp) h2.1
    rcases h2.2 with h4 | h4
    · rw [h4] at h3
      rcases Nat.lt_or_ge i L.size with h' | h'
      · simp [h'] at hL h3; rw [hL] at h3; cases h3
      · simp [Array.getElem?_eq_none h'] at h3
    · refine waits_not hc hL n _ h4 ?_
      cases he : ops[o.after[k].on]? with
      | none =>
        exfalso
        cases n with
        | zero => simp [waits] at h4
        | succ n => unfold waits at h4; rw [he] at h4; cases h4
      | some o2 => exact ⟨o2, rfl, fun e he2 hb => hc _ o2 he h3 e he2 hb⟩

theorem waits_spec {i n : Nat} (h : waits md ops i n z = true) (L : Array Bool) (hc : Closed md ops L) (hL : L.getD i true = false) : z ∉ Region.ready md ops L := fun hz => by
  obtain ⟨_, o, ho, hall⟩ := mem_ready.1 hz
  exact waits_not hc hL n z h ⟨o, ho, hall⟩

structure Ahead (md : Region.Mode) (ops : Array Oper) (i : Nat) (oi : Oper) (L : Array Bool) : Prop where
  up : i ∈ Region.ready md ops L
  shut : Closed md ops L
  apart : ∀ j oj, ops[j]? = some oj → j ≠ i → L.getD j true = false → (∀ e ∈ oj.after, Region.binds md e = true → e.on ≠ i) → oi.apart ops oj = true

theorem Ahead.other {i j : Nat} {oi : Oper} {L : Array Bool} (h : Ahead md ops i oi L) (hj : j ∈ Region.ready md ops L) (hji : j ≠ i) : ∃ oj, ops[j]? = some oj ∧ oi.apart ops oj = true := by
  obtain ⟨hun, oj, hoj, hall⟩ := mem_ready.1 hj
  refine ⟨oj, hoj, h.apart j oj hoj hji hun fun e he hb => ?_⟩
  rintro rfl
  have hon := hall e he hb
  have hoff := (mem_ready.1 h.up).1
  by_cases hsz : e.on < L.size
  · rw [Array.getD_eq_getD_getElem?, Array.getElem?_eq_getElem hsz] at hon hoff
    simp only [Option.getD_some] at hon hoff
    rw [hon] at hoff
    cases hoff
  · rw [Array.getD_eq_getD_getElem?, Array.getElem?_eq_none (by omega)] at hon
    cases hon

theorem Ahead.step {i j : Nat} {oi : Oper} {L : Array Bool} (h : Ahead md ops i oi L) (hj : j ∈ Region.ready md ops L) (hji : j ≠ i) : Ahead md ops i oi (L.setIfInBounds j true) := by
  refine ⟨ready_mono h.up (fun e => hji e.symm), h.shut.set hj, fun k ok hk hki hun hno => h.apart k ok hk hki ?_ hno⟩
  rcases Decidable.em (j = k) with rfl | hne
  · exact (mem_ready.1 hj).1
  · rwa [getD_set_ne true hne] at hun

theorem wpAnyT_first {i n : Nat} {oi : Oper} {v : Value} (hi : ops[i]? = some oi) (hsel : ∀ (j : Nat) (o : Oper) cs b, ops[j]? = some o → o.op ≠ .select cs b) (hw : waits md ops i n z = true) (hQ : ∀ c a w, Q (.panic c) (a.put oi.dst v) w → Q (.panic c) a w) :
    ∀ (fuel : Nat) {L : Array Bool} {a : Act} {w : World}, Ahead md ops i oi L → YieldsIf P ops S oi v a → S w → wpAnyT P md ops Q S z fuel (L.setIfInBounds i true) (a.put oi.dst v) w → wpAnyT P md ops Q S z (fuel + 1) L a w := by
  have self : ∀ {fuel : Nat} {L : Array Bool} {a : Act} {w : World}, YieldsIf P ops S oi v a → S w → wpAnyT P md ops Q S z fuel (L.setIfInBounds i true) (a.put oi.dst v) w → wpOp P ops Q i (fun a' w' => (i ≠ z → S w') ∧ wpAnyT P md ops Q S z fuel (L.setIfInBounds i true) a' w') a w := fun hy hS H => hy.wpOp hi hS ⟨fun _ => hS, H⟩
  have some_up : ∀ {L : Array Bool}, Ahead md ops i oi L → Region.ready md ops L ≠ [] := fun h e => by have := h.up; rw [e] at this; cases this
  intro fuel
  induction fuel with
  | zero =>
    intro L a w hA hy hS H
    refine ⟨fun e => absurd e (some_up hA), fun j hj => ?_⟩
    rcases Decidable.em (j = i) with rfl | hji
    · exact self hy hS H
    · have hin := ready_mono hj hji
      rw [H.1] at hin
      cases hin
  | succ fuel ih =>
    intro L a w hA hy hS H
    refine ⟨fun e => absurd e (some_up hA), fun j hj => ?_⟩
    rcases Decidable.em (j = i) with rfl | hji
    · exact self hy hS H
    · obtain ⟨oj, hoj, hap⟩ := hA.other hj hji
      have hjz : j ≠ z := fun e => waits_spec hw L hA.shut (mem_ready.1 hA.up).1 (e ▸ hj)
      have key := wpOp_putIf hoj hap (fun cs b => hsel i oi cs b hi) (fun cs b => hsel j oj cs b hoj) hQ hy (H.2 j (ready_mono hj hji))
      exact wpOp_mono (fun a' w' k => ⟨k.2.1, ih (hA.step hj hji) k.1 (k.2.1 hjz) (by rw [Array.setIfInBounds_comm _ _ hji]; exact k.2.2)⟩) key

theorem take_T {i : Nat} {oi : Oper} {d : Nat} {v : Value} {fuel : Nat} {listed : Array Bool} {tmps : Array Value} {ds : List _} {w : World} (hi : ops[i]? = some oi) (hd : oi.dst = some d)
    (hs : Region.noSelect ops = true) (hf : Region.free md ops listed i = true) (hr : (Region.ready md ops listed).contains i = true) (hc : closed md ops listed = true) (hw : waits md ops i 12 z = true)
    (hQ : ∀ c a w, Q (.panic c) (a.put oi.dst v) w → Q (.panic c) a w) (hy : YieldsIf P ops S oi v { tmps := tmps, defers := ds }) (hS : S w)
    (h : wpAnyT P md ops Q S z fuel (listed.setIfInBounds i true) { tmps := tmps.setIfInBounds d v, defers := ds } w) : wpAnyT P md ops Q S z (fuel + 1) listed { tmps := tmps, defers := ds } w := by
  refine wpAnyT_first hi (Region.noSelect_spec hs) hw hQ fuel ⟨by simpa using hr, closed_spec hc, Region.free_spec hi hf⟩ hy hS ?_
  rw [hd]
  exact h

def AllReadyT (P : Program) (md : Region.Mode) (ops : Array Oper) (Q : Exit → Act → World → Prop) (S : World → Prop) (z fuel : Nat) (listed : Array Bool) (a : Act) (w : World) (rs : List Nat) : Prop :=
  ∀ i ∈ rs, wpOp P ops Q i (fun a' w' => (i ≠ z → S w') ∧ wpAnyT P md ops Q S z fuel (listed.setIfInBounds i true) a' w') a w
theorem AllReadyT.nil {fuel : Nat} {listed : Array Bool} {a : Act} {w : World} : AllReadyT P md ops Q S z fuel listed a w [] := fun _ h => by cases h
theorem AllReadyT.cons {fuel : Nat} {listed : Array Bool} {a : Act} {w : World} {i : Nat} {o : Oper} {rs : List Nat} (ho : ops[i]? = some o)
    (h : ∀ K' : Act → World → Prop, Shut (∀ a w, (i ≠ z → S w) → wpAnyT P md ops Q S z fuel (listed.setIfInBounds i true) a w → K' a w) → if Region.wanted o (yielded ops a.tmps) = true then Oper.wp P o a w K' Q else K' (a.put o.dst undef) w)
    (hs : AllReadyT P md ops Q S z fuel listed a w rs) : AllReadyT P md ops Q S z fuel listed a w (i :: rs) := fun j hj => by
  rcases List.mem_cons.1 hj with rfl | hj
  · exact wpOp_step ho (fun K' hK => h K' (fun a w hS hW => hK a w ⟨hS, hW⟩))
  · exact hs j hj
theorem wpAnyT_ready {rs : List Nat} {fuel : Nat} {listed : Array Bool} {a : Act} {w : World} (hr : Region.ready md ops listed = rs) (hne : rs ≠ [])
    (h : AllReadyT P md ops Q S z fuel listed a w rs) : wpAnyT P md ops Q S z (fuel + 1) listed a w :=
  ⟨fun h0 => absurd (hr ▸ h0) hne, hr ▸ h⟩
theorem wpAnyT_done {listed : Array Bool} {a : Act} {w : World} (hr : Region.ready md ops listed = []) (h : Q .normal a w) :
    ∀ fuel, wpAnyT P md ops Q S z fuel listed a w
  | 0 => ⟨hr, h⟩
  | _ + 1 => ⟨fun _ => h, by rw [hr]; simp⟩
theorem wp_region_T {id : Nat} {a : Act} {w : World} (S : World → Prop) (z : Nat) (hm : P.follows .mixedOrders = true)
    (h : wpAnyT P .any ops Q S z ops.size (Array.replicate ops.size false) a w.drew) : (Code.region id ops true).wp P Q a w :=
  wp_region_any hm (wpAny_of_T _ _ _ _ h)
end
end Go.Proofs.YtboejbjobjhajaaGreatDoor
namespace Go.Proofs.YtboejbjobjhajaaGreatDoor
open Go.RowKit

section
variable {P : Program} {ops : Array Oper} {Q : Exit → Act → World → Prop} {md : Region.Mode} {S : World → Prop} {zs : List Nat}

def fresh (zs : List Nat) (L : Array Bool) : Prop := ∀ z ∈ zs, L.getD z false = false
theorem fresh.set {L : Array Bool} {i : Nat} (h : fresh zs L) (hi : i ∉ zs) : fresh zs (L.setIfInBounds i true) := fun z hz => by
  have hne : i ≠ z := fun e => hi (by rw [e]; exact hz)
  rw [getD_set_ne false hne]
  exact h z hz
theorem fresh.of_set {L : Array Bool} {j : Nat} (h : fresh zs (L.setIfInBounds j true)) (hj : L.getD j true = false) : j ∉ zs ∧ fresh zs L := by
  have hlt : j < L.size := by
    rcases Nat.lt_or_ge j L.size with h' | h'
    · exact h'
    · rw [Array.getD_eq_getD_getElem?, Array.getElem?_eq_none h'] at hj
      cases hj
  have hno : j ∉ zs := fun e => by
    have h1 := h j e
    rw [Array.getD_eq_getD_getElem?, Array.getElem?_setIfInBounds, if_pos rfl, if_pos hlt] at h1
    cases h1
  refine ⟨hno, fun z hz => ?_⟩
  have h1 := h z hz
  have hne : j ≠ z := fun e => hno (by rw [e]; exact hz)
  rwa [getD_set_ne false hne] at h1

def wpAnyU (P : Program) (md : Region.Mode) (ops : Array Oper) (Q : Exit → Act → World → Prop) (S : World → Prop) (zs : List Nat) : Nat → Array Bool → Act → World → Prop
  | 0, listed, a, w => Region.ready md ops listed = [] ∧ Q .normal a w
  | fuel + 1, listed, a, w =>
    (Region.ready md ops listed = [] → Q .normal a w) ∧
    ∀ i ∈ Region.ready md ops listed, wpOp P ops Q i (fun a' w' => (i ∉ zs → fresh zs listed → S w') ∧ wpAnyU P md ops Q S zs fuel (listed.setIfInBounds i true) a' w') a w

theorem wpAny_of_U : ∀ (fuel : Nat) (listed : Array Bool) (a : Act) (w : World), wpAnyU P md ops Q S zs fuel listed a w → wpAny P md ops Q fuel listed a w
  | 0, _, _, _, h => h
  | fuel + 1, _, _, _, h => ⟨h.1, fun i hi => wpOp_mono (fun a' w' h' => wpAny_of_U fuel _ a' w' h'.2) (h.2 i hi)⟩

theorem waits_fresh {i n : Nat} {L : Array Bool} (hw : ∀ z ∈ zs, waits md ops i n z = true) (hc : Closed md ops L) (hi : L.getD i true = false) : fresh zs L := fun z hz => by
  cases h : L.getD z false with
  | false => rfl
  | true =>
    exfalso
    have h1 := hw z hz
    cases ho : ops[z]? with
    | none =>
      cases n with
      | zero => simp [waits] at h1
      | succ n => unfold waits at h1; rw [ho] at h1; cases h1
    | some o => exact waits_not hc hi n z h1 ⟨o, ho, fun e he hb => hc z o ho h e he hb⟩

theorem wpAnyU_first {i n : Nat} {oi : Oper} {v : Value} (hi : ops[i]? = some oi) (hsel : ∀ (j : Nat) (o : Oper) cs b, ops[j]? = some o → o.op ≠ .select cs b) (hw : ∀ z ∈ zs, waits md ops i n z = true) (hiz : i ∉ zs) (hQ : ∀ c a w, Q (.panic c) (a.put oi.dst v) w → Q (.panic c) a w) :
    ∀ (fuel : Nat) {L : Array Bool} {a : Act} {w : World}, Ahead md ops i oi L → YieldsIf P ops S oi v a → S w → wpAnyU P md ops Q S zs fuel (L.setIfInBounds i true) (a.put oi.dst v) w → wpAnyU P md ops Q S zs (fuel + 1) L a w := by
  have self : ∀ {fuel : Nat} {L : Array Bool} {a : Act} {w : World}, YieldsIf P ops S oi v a → S w → wpAnyU P md ops Q S zs fuel (L.setIfInBounds i true) (a.put oi.dst v) w → wpOp P ops Q i (fun a' w' => (i ∉ zs → fresh zs L → S w') ∧ wpAnyU P md ops Q S zs fuel (L.setIfInBounds i true) a' w') a w := fun hy hS H => hy.wpOp hi hS ⟨fun _ _ => hS, H⟩
  have some_up : ∀ {L : Array Bool}, Ahead md ops i oi L → Region.ready md ops L ≠ [] := fun h e => by have := h.up; rw [e] at this; cases this
  intro fuel
  induction fuel with
  | zero =>
    intro L a w hA hy hS H
    refine ⟨fun e => absurd e (some_up hA), fun j hj => ?_⟩
    rcases Decidable.em (j = i) with rfl | hji
    · exact self hy hS H
    · have hin := ready_mono hj hji
      rw [H.1] at hin
      cases hin
  | succ fuel ih =>
    intro L a w hA hy hS H
    refine ⟨fun e => absurd e (some_up hA), fun j hj => ?_⟩
    rcases Decidable.em (j = i) with rfl | hji
    · exact self hy hS H
    · obtain ⟨oj, hoj, hap⟩ := hA.other hj hji
      have hjz : j ∉ zs := fun e => waits_spec (hw j e) L hA.shut (mem_ready.1 hA.up).1 hj
      have hfr : fresh zs L := waits_fresh hw hA.shut (mem_ready.1 hA.up).1
      have key := wpOp_putIf hoj hap (fun cs b => hsel i oi cs b hi) (fun cs b => hsel j oj cs b hoj) hQ hy (H.2 j (ready_mono hj hji))
      exact wpOp_mono (fun a' w' k => ⟨fun h1 h2 => k.2.1 h1 (h2.set hiz), ih (hA.step hj hji) k.1 (k.2.1 hjz (hfr.set hiz)) (by rw [Array.setIfInBounds_comm _ _ hji]; exact k.2.2)⟩) key

theorem wpAnyU_pure {i : Nat} {oi : Oper} {v : Value} (hi : ops[i]? = some oi) (hsel : ∀ (j : Nat) (o : Oper) cs b, ops[j]? = some o → o.op ≠ .select cs b) (hiz : i ∉ zs) (hQ : ∀ c a w, Q (.panic c) (a.put oi.dst v) w → Q (.panic c) a w) :
    ∀ (fuel : Nat) {L : Array Bool} {a : Act} {w : World}, Ahead md ops i oi L → YieldsIf P ops (fun _ => True) oi v a → (fresh zs L → S w) → wpAnyU P md ops Q S zs fuel (L.setIfInBounds i true) (a.put oi.dst v) w → wpAnyU P md ops Q S zs (fuel + 1) L a w := by
  have self : ∀ {fuel : Nat} {L : Array Bool} {a : Act} {w : World}, YieldsIf P ops (fun _ => True) oi v a → (fresh zs L → S w) → wpAnyU P md ops Q S zs fuel (L.setIfInBounds i true) (a.put oi.dst v) w → wpOp P ops Q i (fun a' w' => (i ∉ zs → fresh zs L → S w') ∧ wpAnyU P md ops Q S zs fuel (L.setIfInBounds i true) a' w') a w := fun hy hS H => hy.wpOp hi trivial ⟨fun _ => hS, H⟩
  have some_up : ∀ {L : Array Bool}, Ahead md ops i oi L → Region.ready md ops L ≠ [] := fun h e => by have := h.up; rw [e] at this; cases this
  intro fuel
  induction fuel with
  | zero =>
    intro L a w hA hy hS H
    refine ⟨fun e => absurd e (some_up hA), fun j hj => ?_⟩
    rcases Decidable.em (j = i) with rfl | hji
    · exact self hy hS H
    · have hin := ready_mono hj hji
      rw [H.1] at hin
      cases hin
  | succ fuel ih =>
    intro L a w hA hy hS H
    refine ⟨fun e => absurd e (some_up hA), fun j hj => ?_⟩
    rcases Decidable.em (j = i) with rfl | hji
    · exact self hy hS H
    · obtain ⟨oj, hoj, hap⟩ := hA.other hj hji
      have key := wpOp_putIf hoj hap (fun cs b => hsel i oi cs b hi) (fun cs b => hsel j oj cs b hoj) hQ hy (H.2 j (ready_mono hj hji))
      refine wpOp_mono (fun a' w' k => ⟨fun h1 h2 => k.2.1 h1 (h2.set hiz), ih (hA.step hj hji) k.1 (fun h2 => ?_) (by rw [Array.setIfInBounds_comm _ _ hji]; exact k.2.2)⟩) key
      have h3 := h2.of_set (mem_ready.1 hj).1
      exact k.2.1 h3.1 (h3.2.set hiz)

theorem take_U {i : Nat} {oi : Oper} {d : Nat} {v : Value} {fuel : Nat} {listed : Array Bool} {tmps : Array Value} {ds : List _} {w : World} (hi : ops[i]? = some oi) (hd : oi.dst = some d)
    (hs : Region.noSelect ops = true) (hf : Region.free md ops listed i = true) (hr : (Region.ready md ops listed).contains i = true) (hc : closed md ops listed = true) (hw : (zs.all fun z => waits md ops i 12 z) = true) (hiz : zs.contains i = false)
    (hQ : ∀ c a w, Q (.panic c) (a.put oi.dst v) w → Q (.panic c) a w) (hy : YieldsIf P ops S oi v { tmps := tmps, defers := ds }) (hS : S w)
    (h : wpAnyU P md ops Q S zs fuel (listed.setIfInBounds i true) { tmps := tmps.setIfInBounds d v, defers := ds } w) : wpAnyU P md ops Q S zs (fuel + 1) listed { tmps := tmps, defers := ds } w := by
  refine wpAnyU_first hi (Region.noSelect_spec hs) (List.all_eq_true.1 hw) (by simpa using hiz) hQ fuel ⟨by simpa using hr, closed_spec hc, Region.free_spec hi hf⟩ hy hS ?_
  rw [hd]
  exact h
theorem take_P {i : Nat} {oi : Oper} {d : Nat} {v : Value} {fuel : Nat} {listed : Array Bool} {tmps : Array Value} {ds : List _} {w : World} (hi : ops[i]? = some oi) (hd : oi.dst = some d)
    (hs : Region.noSelect ops = true) (hf : Region.free md ops listed i = true) (hr : (Region.ready md ops listed).contains i = true) (hc : closed md ops listed = true) (hiz : zs.contains i = false)
    (hQ : ∀ c a w, Q (.panic c) (a.put oi.dst v) w → Q (.panic c) a w) (hy : YieldsIf P ops (fun _ => True) oi v { tmps := tmps, defers := ds }) (hS : fresh zs listed → S w)
    (h : wpAnyU P md ops Q S zs fuel (listed.setIfInBounds i true) { tmps := tmps.setIfInBounds d v, defers := ds } w) : wpAnyU P md ops Q S zs (fuel + 1) listed { tmps := tmps, defers := ds } w := by
  refine wpAnyU_pure hi (Region.noSelect_spec hs) (by simpa using hiz) hQ fuel ⟨by simpa using hr, closed_spec hc, Region.free_spec hi hf⟩ hy hS ?_
  rw [hd]
  exact h

def AllReadyU (P : Program) (md : Region.Mode) (ops : Array Oper) (Q : Exit → Act → World → Prop) (S : World → Prop) (zs : List Nat) (fuel : Nat) (listed : Array Bool) (a : Act) (w : World) (rs : List Nat) : Prop :=
  ∀ i ∈ rs, wpOp P ops Q i (fun a' w' => (i ∉ zs → fresh zs listed → S w') ∧ wpAnyU P md ops Q S zs fuel (listed.setIfInBounds i true) a' w') a w
theorem AllReadyU.nil {fuel : Nat} {listed : Array Bool} {a : Act} {w : World} : AllReadyU P md ops Q S zs fuel listed a w [] := fun _ h => by cases h
theorem AllReadyU.cons {fuel : Nat} {listed : Array Bool} {a : Act} {w : World} {i : Nat} {o : Oper} {rs : List Nat} (ho : ops[i]? = some o)
    (h : ∀ K' : Act → World → Prop, Shut (∀ a w, (i ∉ zs → fresh zs listed → S w) → wpAnyU P md ops Q S zs fuel (listed.setIfInBounds i true) a w → K' a w) → if Region.wanted o (yielded ops a.tmps) = true then Oper.wp P o a w K' Q else K' (a.put o.dst undef) w)
    (hs : AllReadyU P md ops Q S zs fuel listed a w rs) : AllReadyU P md ops Q S zs fuel listed a w (i :: rs) := fun j hj => by
  rcases List.mem_cons.1 hj with rfl | hj
  · exact wpOp_step ho (fun K' hK => h K' (fun a w hS hW => hK a w ⟨hS, hW⟩))
  · exact hs j hj
theorem wpAnyU_ready {rs : List Nat} {fuel : Nat} {listed : Array Bool} {a : Act} {w : World} (hr : Region.ready md ops listed = rs) (hne : rs ≠ [])
    (h : AllReadyU P md ops Q S zs fuel listed a w rs) : wpAnyU P md ops Q S zs (fuel + 1) listed a w :=
  ⟨fun h0 => absurd (hr ▸ h0) hne, hr ▸ h⟩
theorem wpAnyU_done {listed : Array Bool} {a : Act} {w : World} (hr : Region.ready md ops listed = []) (h : Q .normal a w) :
    ∀ fuel, wpAnyU P md ops Q S zs fuel listed a w
  | 0 => ⟨hr, h⟩
  | _ + 1 => ⟨fun _ => h, by rw [hr]; simp⟩
theorem wp_region_U {id : Nat} {a : Act} {w : World} (S : World → Prop) (zs : List Nat) (hm : P.follows .mixedOrders = true)
    (h : wpAnyU P .any ops Q S zs ops.size (Array.replicate ops.size false) a w.drew) : (Code.region id ops true).wp P Q a w :=
  wp_region_any hm (wpAny_of_U _ _ _ _ h)
end
end Go.Proofs.YtboejbjobjhajaaGreatDoor
namespace Go.Proofs.YtboejbjobjhajaaGreatDoor
open Go.RowKit

theorem take_at {P : Program} {ops : Array Oper} {Q : Exit → Act → World → Prop} {md : Region.Mode} {S : World → Prop} {i : Nat} {oi : Oper} {d : Nat} {v : Value} {fuel : Nat} {listed : Array Bool} {tmps : Array Value} {ds : List _} {w : World} (hi : ops[i]? = some oi) (hd : oi.dst = some d)
    (hs : Region.noSelect ops = true) (hf : Region.free md ops listed i = true) (hr : (Region.ready md ops listed).contains i = true)
    (hQ : ∀ c a w, Q (.panic c) (a.put oi.dst v) w → Q (.panic c) a w) (hy : YieldsIf P ops S oi v { tmps := tmps, defers := ds }) (hS : S w)
    (h : wpAnyH P md ops Q S fuel (listed.setIfInBounds i true) { tmps := tmps.setIfInBounds d v, defers := ds } w) : wpAnyH P md ops Q S (fuel + 1) listed { tmps := tmps, defers := ds } w := by
  refine wpAnyH_take hi hs hf hr hQ hy hS ?_
  rw [hd]
  exact h

end Go.Proofs.YtboejbjobjhajaaGreatDoor
namespace Go.Proofs.YtboejbjobjhajaaGreatDoor
open Go.RowKit
section
variable {w w' : World} {k : Nat} {cs : List Value} {t : TypeId}
theorem Cb.rowed (h : Cb w k cs t) (ds : List Value) : Cb (w.setRow k ds.toArray) k ds t := setRow_heap w k cs.toArray ds.toArray t (0, 0) h
theorem rowed_grown (w : World) (g : Nat) (cs : Array Value) : w.grownBy (w.setRow g cs) (some g) := ⟨rfl, rfl, rfl, by simp [World.setRow], fun k _ hne => setRow_other w g k cs (fun e => hne (by rw [e]))⟩
theorem rowed_below {B : Nat} (hb : Below B w w') (hB : B ≤ w.heap.size) (hk : B ≤ k) (ds : Array Value) : Below B w (w'.setRow k ds) := hb.grown (rowed_grown w' k ds) (Nat.le_trans hB hb.size) (fun j hj => by simp at hj; omega)
end
end Go.Proofs.YtboejbjobjhajaaGreatDoor
namespace Go.Proofs.YtboejbjobjhajaaGreatDoor
open Go.RowKit
section
variable {P : Program}
theorem setRow_self {w : World} {g : Nat} {t : TypeId} {cur : Array Value} {fr : Nat × Nat} (hg : w.heap[g]? = some (.cells cur t fr)) : w.setRow g cur = w := by
  have hlt : g < w.heap.size := (Array.getElem?_eq_some_iff.1 hg).1
  have hv : w.heap[g] = .cells cur t fr := (Array.getElem?_eq_some_iff.1 hg).2
  unfold World.setRow
  cases w with
  | mk heap tape drawn os output =>
    congr 1
    apply Array.ext
    · simp
    · intro k h1 h2
      simp only [Array.getElem_modify]
      split
      · rename_i hk; subst hk; simp at hv; simp [hv]
      · rfl
theorem run_storeCells_part (g off : Nat) (t : TypeId) : ∀ (vs : List Value) (i : Nat) (cur : List Value) (w : World), w.heap[g]? = some (.cells cur.toArray t (0, 0)) → off + i + vs.length ≤ cur.length → (∀ v ∈ vs, v.oneCell' = true) →
    (storeCells ⟨g, off, none⟩ vs i).run P w = .ok () (w.setRow g (cur.take (off + i) ++ vs ++ cur.drop (off + i + vs.length)).toArray)
  | [], i, cur, w, hg, hl, _ => by
    simp only [storeCells, List.append_nil, List.length_nil, Nat.add_zero, List.take_append_drop]
    rw [setRow_self hg]
    rfl
  | v :: rest, i, cur, w, hg, hl, h1 => by
    simp only [List.length_cons] at hl
    have hi : off + i < cur.length := by omega
    have hadd : (⟨g, off, none⟩ : Addr).add i = ⟨g, off + i, none⟩ := by unfold Addr.add; split <;> simp_all
    have hcell : w.cell? ⟨g, off + i, none⟩ = some cur[off + i] := by simp [World.cell?, hg, hi]
    have hfro : w.frozen? ⟨g, off + i, none⟩ = false := by simp [World.frozen?, hg]
    have hst : (store ((⟨g, off, none⟩ : Addr).add i) v).run P w = .ok () (w.setRow g (cur.set (off + i) v).toArray) := by
      rw [hadd, run_store P w _ v _ (h1 v (by simp)), hcell]
      simp [hfro, setCell_eq_setRow w g (off + i) cur.toArray t (0, 0) v hg]
    have ih := run_storeCells_part g off t rest (i + 1) (cur.set (off + i) v) (w.setRow g (cur.set (off + i) v).toArray) (setRow_heap w g cur.toArray _ t _ hg) (by simp; omega) (fun x hx => h1 x (by simp [hx]))
    simp only [storeCells, Sem.run_bind, hst, Result.andThen_ok, ih, setRow_setRow]
    congr 3
    have e1 : (cur.set (off + i) v).take (off + (i + 1)) = cur.take (off + i) ++ [v] := by
      rw [List.set_eq_take_append_cons_drop, if_pos hi, show off + (i + 1) = (cur.take (off + i)).length + 1 by rw [List.length_take]; omega, List.take_length_add_append]
      simp
    have e2 : (cur.set (off + i) v).drop (off + (i + 1) + rest.length) = cur.drop (off + i + (rest.length + 1)) := by
      rw [List.drop_set_of_lt (by omega)]
      congr 1
      omega
    rw [e1, e2]
    simp
theorem run_storeVar_part (w : World) (g off : Nat) (t ty : TypeId) (old : List Value) (cells : Array Value) (hg : w.heap[g]? = some (.cells old.toArray t (0, 0))) (hi : (P.info? ty).map (·.size) = some cells.size)
    (ho : off + cells.size ≤ old.length) (h1 : cells.all (·.oneCell') = true) :
    (storeVar ty ⟨g, off, none⟩ (.agg cells)).run P w = .ok () (w.setRow g (old.take off ++ cells.toList ++ old.drop (off + cells.size)).toArray) := by
  have := run_storeCells_part (P := P) g off t cells.toList 0 old w hg (by simp; omega) (fun v hv => (Array.all_eq_true_iff_forall_mem.1 h1) v (by simpa using hv))
  simp only [Nat.add_zero, Array.length_toList] at this
  generalize (old.take off ++ cells.toList ++ old.drop (off + cells.size)).toArray = new at this ⊢
  cases hq : P.info? ty with
  | none => simp [hq] at hi
  | some i =>
    have hs : cells.size = i.size := by simp [hq] at hi; omega
    simp [storeVar, sizeOf, typeInfo, hq, Value.cells, hs, this]
theorem wp_store_part {o : Oper} {a : Act} {w : World} {K : Act → World → Prop} {Q : Exit → Act → World → Prop} (ty : TypeId) (x y : Operand) (ho : o.op = .store ty x y)
    (g off : Nat) (cells : Array Value) (hx : a.eval x = .pointer (some ⟨g, off, none⟩)) (hy : a.eval y = .agg cells)
    (t : TypeId) (old new : List Value) (hg : Cb w g old t) (hi : (P.info? ty).map (·.size) = some cells.size)
    (hold : off + cells.size ≤ old.length) (h1 : cells.all (·.oneCell') = true) (hn : old.take off ++ cells.toList ++ old.drop (off + cells.size) = new)
    (h : K (a.put o.dst undef) (w.setRow g new.toArray)) : o.wp P a w K Q := by
  unfold Oper.wp execOp
  simp only [ho, hx, hy, Instr.storeAt, Instr.sureAddr, Sem.run_bind, Sem.run_pure, Result.andThen_ok, run_storeVar_part w g off t ty old cells hg hi hold h1, hn]
  exact h
theorem wpList_store_part {ops : Array Oper} {rest : List Oper} {o : Oper} {a : Act} {w : World} {Q : Exit → Act → World → Prop} (hgd : o.guard = none) (ty : TypeId) (x y : Operand) (ho : o.op = .store ty x y)
    (g off : Nat) (cells : Array Value) (hx : a.eval x = .pointer (some ⟨g, off, none⟩)) (hy : a.eval y = .agg cells)
    (t : TypeId) (old new : List Value) (hg : Cb w g old t) (hi : (P.info? ty).map (·.size) = some cells.size)
    (hold : off + cells.size ≤ old.length) (h1 : cells.all (·.oneCell') = true) (hn : old.take off ++ cells.toList ++ old.drop (off + cells.size) = new)
    (h : wpList P ops Q rest (a.put o.dst undef) (w.setRow g new.toArray)) : wpList P ops Q (o :: rest) a w :=
  wpList_plain hgd fun _ hK => wp_store_part ty x y ho g off cells hx hy t old new hg hi hold h1 hn (hK _ _ h)
theorem run_loadVar_part (w : World) (g off : Nat) (t ty : TypeId) (cs : List Value) (vs : Array Value) (d : TypeDesc) (hg : Cb w g cs t)
    (hu : P.underlying ty = some d) (hd : (match d with | .struct _ | .array _ _ => true | _ => false) = true) (hi : (P.info? ty).map (·.size) = some vs.size) (hvs : (cs.drop off).take vs.size = vs.toList) :
    (loadVar ty ⟨g, off, none⟩).run P w = .ok (.agg vs) w := by
  have hl : (loadCells ⟨g, off, none⟩ vs.toList.length).run P w = .ok vs.toList.toArray w :=
    run_loadCells_list (P := P) w ⟨g, off, none⟩ vs.toList (fun j v hv => by
      have hadd : (⟨g, off, none⟩ : Addr).add j = ⟨g, off + j, none⟩ := by unfold Addr.add; split <;> simp_all
      rw [hadd, Cb.cell hg]
      rw [← hvs, List.getElem?_take] at hv
      split at hv
      · rw [List.getElem?_drop] at hv
        exact hv
      · cases hv)
  cases hq : P.info? ty with
  | none => simp [hq] at hi
  | some i =>
    have hs : i.size = vs.size := by simpa [hq] using hi
    have hagg : (isAgg ty).run P w = .ok true w := by
      unfold isAgg
      rw [Sem.run_bind, run_underlying hu w]
      cases d <;> simp_all
    simp only [Array.length_toList, Array.toArray_toList] at hl
    simp [loadVar, Sem.run_bind, hagg, sizeOf, typeInfo, hq, hs, hl]
theorem wpList_load_part {ops : Array Oper} {rest : List Oper} {o : Oper} {a : Act} {w : World} {Q : Exit → Act → World → Prop} (hgd : o.guard = none) (ty : TypeId) (x : Operand) (ho : o.op = .load ty x)
    (g off : Nat) (hx : a.eval x = .pointer (some ⟨g, off, none⟩)) (t : TypeId) (cs : List Value) (vs : Array Value) (d : TypeDesc) (hg : Cb w g cs t)
    (hu : P.underlying ty = some d) (hd : (match d with | .struct _ | .array _ _ => true | _ => false) = true) (hi : (P.info? ty).map (·.size) = some vs.size) (hvs : (cs.drop off).take vs.size = vs.toList)
    (h : wpList P ops Q rest (a.put o.dst (.agg vs)) w) : wpList P ops Q (o :: rest) a w := by
  refine wpList_plain hgd fun _ hK => ?_
  unfold Oper.wp execOp
  simp only [ho, hx, Instr.loadAt, Instr.sureAddr, Sem.run_bind, Sem.run_pure, Result.andThen_ok, run_loadVar_part w g off t ty cs vs d hg hu hd hi hvs]
  exact hK _ _ h
end
end Go.Proofs.YtboejbjobjhajaaGreatDoor
namespace Go.Proofs.YtboejbjobjhajaaGreatDoor
open Go.RowKit
end Go.Proofs.YtboejbjobjhajaaGreatDoor
