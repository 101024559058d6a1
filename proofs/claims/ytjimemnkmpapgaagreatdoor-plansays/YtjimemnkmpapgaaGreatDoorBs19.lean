/- What a call changes, told by blocks. A block of cells, whole. A block that is written as a whole. A part of a block, read and written as a whole. copy, clear and append within a row that is one block, whatever cells its elements have. No package of the program is named. -/
import Derived.Test.YtjimemnkmpapgaaGreatDoorBase
import Derived.Laws.Tables
import Derived.Laws.Rows
import Derived.Laws.IdiomCopy
import Derived.Deep.AppendSrc
import Derived.Lib.SliceRun
namespace Go.Proofs.YtjimemnkmpapgaaGreatDoor
open Go.RowKit

/-- What is changed lies in the blocks F, or is new; what F has become. -/
structure Moved (w w' : World) (F F' : Nat → Prop) : Prop where
  os : w'.os = w.os
  tape : w'.tape = w.tape
  output : w'.output = w.output
  size : w.heap.size ≤ w'.heap.size
  block : ∀ k, k < w.heap.size → ¬ F k → w'.heap[k]? = w.heap[k]?
  sub : ∀ k, F' k → F k ∨ w.heap.size ≤ k

theorem Moved.refl (w : World) (F : Nat → Prop) : Moved w w F F := ⟨rfl, rfl, rfl, Nat.le_refl _, fun _ _ _ => rfl, fun _ h => Or.inl h⟩
theorem Moved.of_below {w w' : World} (F : Nat → Prop) (h : Below w.heap.size w w') : Moved w w' F F := ⟨h.os, h.tape, h.output, h.size, fun k hk _ => h.block k hk, fun _ h => Or.inl h⟩
theorem Moved.below {w w' : World} {F F' : Nat → Prop} {B : Nat} (h : Moved w w' F F') (hB : B ≤ w.heap.size) (hF : ∀ k, F k → B ≤ k) : Below B w w' :=
  ⟨h.os, h.tape, h.output, h.size, fun k hk => h.block k (by omega) (fun e => by have := hF k e; omega)⟩

theorem Moved.trans {w w1 w2 : World} {F F1 F2 : Nat → Prop} (h : Moved w w1 F F1) (k : Moved w1 w2 F1 F2) : Moved w w2 F F2 := by
  have hs := h.size
  refine ⟨k.os.trans h.os, k.tape.trans h.tape, k.output.trans h.output, Nat.le_trans h.size k.size, fun j hj hF => ?_, fun j hj => ?_⟩
  · refine (k.block j (by omega) (fun e => ?_)).trans (h.block j hj hF)
    rcases h.sub j e with h1 | h1
    · exact hF h1
    · omega
  · rcases k.sub j hj with h1 | h1
    · exact h.sub j h1
    · exact Or.inr (by omega)

/-- Bytes that lie elsewhere. -/
theorem Bs.moved {w w' : World} {F F' : Nat → Prop} {v : Value} {xs : List UInt8} (h : Bs w v xs) (hm : Moved w w' F F') (ha : 0 < xs.length → ∀ k, v.ownBlock = some k → ¬ F k) : Bs w' v xs := by
  obtain ⟨ao, n, c, rfl, hn, hs⟩ := h
  refine ⟨ao, n, c, rfl, hn, hs.cap, hs.nil, fun ad had j u hu => ?_⟩
  have hc := hs.cells ad had j u hu
  have h0 : 0 < xs.length := by
    have := (List.getElem?_eq_some_iff.1 hu).1
    rw [bc_len] at this
    omega
  have hb : (ad.add j).block = ad.block := by simp only [Addr.add]; split <;> rfl
  have hlt := World.block_lt_of_cell? w _ hc
  refine (World.cell?_of_block (hm.block _ hlt (ha h0 _ ?_))).trans hc
  rw [hb, had]
  rfl

/-- A pointer to a block. -/
abbrev dptr (q : Nat) : Value := .pointer (some ⟨q, 0, none⟩)

/-- Bytes that lie apart from blocks. -/
def Apart (F : Nat → Prop) (v : Value) (xs : List UInt8) : Prop := 0 < xs.length → ∀ k, v.ownBlock = some k → ¬ F k
end Go.Proofs.YtjimemnkmpapgaaGreatDoor
namespace Go.Proofs.YtjimemnkmpapgaaGreatDoor
open Go.RowKit

def Cb (w : World) (k : Nat) (cs : List Value) (t : TypeId) : Prop := w.heap[k]? = some (.cells cs.toArray t (0, 0))
section
variable {w w' : World} {k : Nat} {cs : List Value} {t : TypeId}
theorem Cb.cell (h : Cb w k cs t) (i : Nat) : w.cell? ⟨k, i, none⟩ = cs[i]? := by
  unfold Cb at h
  simp [World.cell?, h]
theorem Cb.free (h : Cb w k cs t) (i : Nat) : w.frozen? ⟨k, i, none⟩ = false := by
  unfold Cb at h
  simp only [World.frozen?, h]
  rfl
theorem Cb.lt (h : Cb w k cs t) : k < w.heap.size := (Array.getElem?_eq_some_iff.1 h).1
theorem Cb.set (h : Cb w k cs t) (i : Nat) (u : Value) : Cb (w.setCell ⟨k, i, none⟩ u) k (cs.set i u) t := by
  unfold Cb at h ⊢
  simp [World.setCell, Array.getElem?_modify, h]
theorem Cb.keep (h : Cb w k cs t) (hk : w'.heap[k]? = w.heap[k]?) : Cb w' k cs t := hk.trans h
theorem Cb.below (h : Cb w k cs t) (hb : Below w.heap.size w w') : Cb w' k cs t := h.keep (hb.block k h.lt)
theorem Cb.made (w : World) (cs : List Value) (t : TypeId) : Cb (w.alloc (.cells cs.toArray t)) w.heap.size cs t := heap_alloc_new w _
theorem row_in {B n s j : Nat} {v : Value} {us : List Value} (h : w.ownsRow B t s v n us) (hk : v.ownBlock = some j) : ∃ cur, w.heap[j]? = some (.cells cur t (0, 0)) := by
  rcases h.2 with ⟨rfl, _⟩ | ⟨g, cap, cur, rfl, _, hg, _⟩
  · cases hk
  · simp only [Value.ownBlock, Option.some.injEq] at hk
    subst hk
    exact ⟨cur, hg⟩
/-- A row lies elsewhere than a block of another kind. -/
theorem Cb.apart {t' : TypeId} (hp : Cb w k cs t) {B n s : Nat} {u : Value} {xs : List Value} (hu : w.ownsRow B t' s u n xs) (ht : t' ≠ t) : u.ownBlock ≠ some k := fun e => by
  obtain ⟨cur, hc⟩ := row_in hu e
  unfold Cb at hp
  rw [hp] at hc
  simp only [Option.some.injEq, Obj.cells.injEq] at hc
  exact ht hc.2.1.symm
theorem row_stays {B n s : Nat} {v : Value} {us : List Value} (h : w.ownsRow B t s v n us) (hk : ∀ k, v.ownBlock = some k → w'.heap[k]? = w.heap[k]?) : w'.ownsRow B t s v n us := by
  refine ⟨h.1, ?_⟩
  rcases h.2 with h1 | ⟨g, cap, cur, e, h1, h2, h3⟩
  · exact Or.inl h1
  · exact Or.inr ⟨g, cap, cur, e, h1, by rw [hk g (by rw [e]; rfl)]; exact h2, h3⟩
theorem row_form {B n s : Nat} {v : Value} {us : List Value} (h : w.ownsRow B t s v n us) : ∃ a c, v = .slice a n c ∧ n ≤ c ∧ (0 < n → ∃ g, a = some ⟨g, 0, none⟩) := by
  rcases h.2 with ⟨rfl, rfl⟩ | ⟨g, cap, cur, rfl, _, _, hn, _⟩
  · exact ⟨_, _, rfl, Nat.le_refl _, fun h => absurd h (by decide)⟩
  · exact ⟨_, _, rfl, hn, fun _ => ⟨g, rfl⟩⟩
end
end Go.Proofs.YtjimemnkmpapgaaGreatDoor
namespace Go.Proofs.YtjimemnkmpapgaaGreatDoor
open Go.RowKit
section
variable {w w' : World} {k : Nat} {cs : List Value} {t : TypeId}
theorem Cb.rowed (h : Cb w k cs t) (ds : List Value) : Cb (w.setRow k ds.toArray) k ds t := setRow_heap w k cs.toArray ds.toArray t (0, 0) h
theorem Cb.rowed_other {j : Nat} (h : Cb w k cs t) (hne : k ≠ j) (ds : Array Value) : Cb (w.setRow j ds) k cs t := h.keep (setRow_other w j k ds hne)
theorem rowed_grown (w : World) (g : Nat) (cs : Array Value) : w.grownBy (w.setRow g cs) (some g) := ⟨rfl, rfl, rfl, by simp [World.setRow], fun k _ hne => setRow_other w g k cs (fun e => hne (by rw [e]))⟩
theorem rowed_below {B : Nat} (hb : Below B w w') (hB : B ≤ w.heap.size) (hk : B ≤ k) (ds : Array Value) : Below B w (w'.setRow k ds) := hb.grown (rowed_grown w' k ds) (Nat.le_trans hB hb.size) (fun j hj => by simp at hj; omega)
end
end Go.Proofs.YtjimemnkmpapgaaGreatDoor
namespace Go.Proofs.YtjimemnkmpapgaaGreatDoor
open Go.RowKit
section
variable {P : Program}
theorem setRow_self {w : World} {g : Nat} {t : TypeId} {cur : Array Value} {fr : Nat × Nat} (hg : w.heap[g]? = some (.cells cur t fr)) : w.setRow g cur = w := by
  have hlt : g < w.heap.size := (Array.getElem?_eq_some_iff.1 hg).1
  have hv : w.heap[g] = .cells cur t fr := (Array.getElem?_eq_some_iff.1 hg).2
  unfold World.setRow
  cases w with
  | mk heap tape drawn os output =>
    congr 1
    apply Array.ext
    · simp
    · intro k h1 h2
      simp only [Array.getElem_modify]
      split
      · rename_i hk; subst hk; simp at hv; simp [hv]
      · rfl
theorem run_storeCells_part (g off : Nat) (t : TypeId) : ∀ (vs : List Value) (i : Nat) (cur : List Value) (w : World), w.heap[g]? = some (.cells cur.toArray t (0, 0)) → off + i + vs.length ≤ cur.length → (∀ v ∈ vs, v.oneCell' = true) →
    (storeCells ⟨g, off, none⟩ vs i).run P w = .ok () (w.setRow g (cur.take (off + i) ++ vs ++ cur.drop (off + i + vs.length)).toArray)
  | [], i, cur, w, hg, hl, _ => by
    simp only [storeCells, List.append_nil, List.length_nil, Nat.add_zero, List.take_append_drop]
    rw [setRow_self hg]
    rfl
  | v :: rest, i, cur, w, hg, hl, h1 => by
    simp only [List.length_cons] at hl
    have hi : off + i < cur.length := by omega
    have hadd : (⟨g, off, none⟩ : Addr).add i = ⟨g, off + i, none⟩ := by unfold Addr.add; split <;> simp_all
    have hcell : w.cell? ⟨g, off + i, none⟩ = some cur[off + i] := by simp [World.cell?, hg, hi]
    have hfro : w.frozen? ⟨g, off + i, none⟩ = false := by simp [World.frozen?, hg]
    have hst : (store ((⟨g, off, none⟩ : Addr).add i) v).run P w = .ok () (w.setRow g (cur.set (off + i) v).toArray) := by
      rw [hadd, run_store P w _ v _ (h1 v (by simp)), hcell]
      simp [hfro, setCell_eq_setRow w g (off + i) cur.toArray t (0, 0) v hg]
    have ih := run_storeCells_part g off t rest (i + 1) (cur.set (off + i) v) (w.setRow g (cur.set (off + i) v).toArray) (setRow_heap w g cur.toArray _ t _ hg) (by simp; omega) (fun x hx => h1 x (by simp [hx]))
    simp only [storeCells, Sem.run_bind, hst, Result.andThen_ok, ih, setRow_setRow]
    congr 3
    have e1 : (cur.set (off + i) v).take (off + (i + 1)) = cur.take (off + i) ++ [v] := by
      rw [List.set_eq_take_append_cons_drop, if_pos hi, show off + (i + 1) = (cur.take (off + i)).length + 1 by rw [List.length_take]; omega, List.take_length_add_append]
      simp
    have e2 : (cur.set (off + i) v).drop (off + (i + 1) + rest.length) = cur.drop (off + i + (rest.length + 1)) := by
      rw [List.drop_set_of_lt (by omega)]
      congr 1
      omega
    rw [e1, e2]
    simp
theorem run_storeVar_part (w : World) (g off : Nat) (t ty : TypeId) (old : List Value) (cells : Array Value) (hg : w.heap[g]? = some (.cells old.toArray t (0, 0))) (hi : (P.info? ty).map (·.size) = some cells.size)
    (ho : off + cells.size ≤ old.length) (h1 : cells.all (·.oneCell') = true) :
    (storeVar ty ⟨g, off, none⟩ (.agg cells)).run P w = .ok () (w.setRow g (old.take off ++ cells.toList ++ old.drop (off + cells.size)).toArray) := by
  have := run_storeCells_part (P := P) g off t cells.toList 0 old w hg (by simp; omega) (fun v hv => (Array.all_eq_true_iff_forall_mem.1 h1) v (by simpa using hv))
  simp only [Nat.add_zero, Array.length_toList] at this
  generalize (old.take off ++ cells.toList ++ old.drop (off + cells.size)).toArray = new at this ⊢
  cases hq : P.info? ty with
  | none => simp [hq] at hi
  | some i =>
    have hs : cells.size = i.size := by simp [hq] at hi; omega
    simp [storeVar, sizeOf, typeInfo, hq, Value.cells, hs, this]
theorem wp_store_part {o : Oper} {a : Act} {w : World} {K : Act → World → Prop} {Q : Exit → Act → World → Prop} (ty : TypeId) (x y : Operand) (ho : o.op = .store ty x y)
    (g off : Nat) (cells : Array Value) (hx : a.eval x = .pointer (some ⟨g, off, none⟩)) (hy : a.eval y = .agg cells)
    (t : TypeId) (old new : List Value) (hg : Cb w g old t) (hi : (P.info? ty).map (·.size) = some cells.size)
    (hold : off + cells.size ≤ old.length) (h1 : cells.all (·.oneCell') = true) (hn : old.take off ++ cells.toList ++ old.drop (off + cells.size) = new)
    (h : K (a.put o.dst undef) (w.setRow g new.toArray)) : o.wp P a w K Q := by
  unfold Oper.wp execOp
  simp only [ho, hx, hy, Instr.storeAt, Instr.sureAddr, Sem.run_bind, Sem.run_pure, Result.andThen_ok, run_storeVar_part w g off t ty old cells hg hi hold h1, hn]
  exact h
theorem wpList_store_part {ops : Array Oper} {rest : List Oper} {o : Oper} {a : Act} {w : World} {Q : Exit → Act → World → Prop} (hgd : o.guard = none) (ty : TypeId) (x y : Operand) (ho : o.op = .store ty x y)
    (g off : Nat) (cells : Array Value) (hx : a.eval x = .pointer (some ⟨g, off, none⟩)) (hy : a.eval y = .agg cells)
    (t : TypeId) (old new : List Value) (hg : Cb w g old t) (hi : (P.info? ty).map (·.size) = some cells.size)
    (hold : off + cells.size ≤ old.length) (h1 : cells.all (·.oneCell') = true) (hn : old.take off ++ cells.toList ++ old.drop (off + cells.size) = new)
    (h : wpList P ops Q rest (a.put o.dst undef) (w.setRow g new.toArray)) : wpList P ops Q (o :: rest) a w :=
  wpList_plain hgd fun _ hK => wp_store_part ty x y ho g off cells hx hy t old new hg hi hold h1 hn (hK _ _ h)
theorem run_loadVar_part (w : World) (g off : Nat) (t ty : TypeId) (cs : List Value) (vs : Array Value) (d : TypeDesc) (hg : Cb w g cs t)
    (hu : P.underlying ty = some d) (hd : (match d with | .struct _ | .array _ _ => true | _ => false) = true) (hi : (P.info? ty).map (·.size) = some vs.size) (hvs : (cs.drop off).take vs.size = vs.toList) :
    (loadVar ty ⟨g, off, none⟩).run P w = .ok (.agg vs) w := by
  have hl : (loadCells ⟨g, off, none⟩ vs.toList.length).run P w = .ok vs.toList.toArray w :=
    run_loadCells_list (P := P) w ⟨g, off, none⟩ vs.toList (fun j v hv => by
      have hadd : (⟨g, off, none⟩ : Addr).add j = ⟨g, off + j, none⟩ := by unfold Addr.add; split <;> simp_all
      rw [hadd, Cb.cell hg]
      rw [← hvs, List.getElem?_take] at hv
      split at hv
      · rw [List.getElem?_drop] at hv
        exact hv
      · cases hv)
  cases hq : P.info? ty with
  | none => simp [hq] at hi
  | some i =>
    have hs : i.size = vs.size := by simpa [hq] using hi
    have hagg : (isAgg ty).run P w = .ok true w := by
      unfold isAgg
      rw [Sem.run_bind, run_underlying hu w]
      cases d <;> simp_all
    simp only [Array.length_toList, Array.toArray_toList] at hl
    simp [loadVar, Sem.run_bind, hagg, sizeOf, typeInfo, hq, hs, hl]
theorem wpList_load_part {ops : Array Oper} {rest : List Oper} {o : Oper} {a : Act} {w : World} {Q : Exit → Act → World → Prop} (hgd : o.guard = none) (ty : TypeId) (x : Operand) (ho : o.op = .load ty x)
    (g off : Nat) (hx : a.eval x = .pointer (some ⟨g, off, none⟩)) (t : TypeId) (cs : List Value) (vs : Array Value) (d : TypeDesc) (hg : Cb w g cs t)
    (hu : P.underlying ty = some d) (hd : (match d with | .struct _ | .array _ _ => true | _ => false) = true) (hi : (P.info? ty).map (·.size) = some vs.size) (hvs : (cs.drop off).take vs.size = vs.toList)
    (h : wpList P ops Q rest (a.put o.dst (.agg vs)) w) : wpList P ops Q (o :: rest) a w := by
  refine wpList_plain hgd fun _ hK => ?_
  unfold Oper.wp execOp
  simp only [ho, hx, Instr.loadAt, Instr.sureAddr, Sem.run_bind, Sem.run_pure, Result.andThen_ok, run_loadVar_part w g off t ty cs vs d hg hu hd hi hvs]
  exact hK _ _ h
end
end Go.Proofs.YtjimemnkmpapgaaGreatDoor
namespace Go.Proofs.YtjimemnkmpapgaaGreatDoor
open Go.RowKit
section
variable {P : Program}
/-- A part of a list, written anew. -/
def over (old : List Value) (off : Nat) (cs : List Value) : List Value := old.take off ++ cs ++ old.drop (off + cs.length)
theorem over_len {old cs : List Value} {off : Nat} (h : off + cs.length ≤ old.length) : (over old off cs).length = old.length := by
  unfold over
  simp
  omega
theorem over_take {old cs : List Value} {off : Nat} (h : off ≤ old.length) : (over old off cs).take (off + cs.length) = old.take off ++ cs := by
  unfold over
  have e : (old.take off ++ cs).length = off + cs.length := by simp; omega
  rw [← e, List.take_left]
theorem over_drop {old cs : List Value} {off : Nat} (h : off ≤ old.length) : (over old off cs).drop (off + cs.length) = old.drop (off + cs.length) := by
  unfold over
  have e : (old.take off ++ cs).length = off + cs.length := by simp; omega
  rw [← e, List.drop_left, e]

theorem run_copy_part (w : World) (dT sT ty elem : TypeId) (size g o dLen dCap : Nat) (a : Addr) (sLen sCap n : Nat) (cs old : List Value) (t : TypeId)
    (hu : P.underlying dT = some (.slice elem)) (hs : (P.info? elem).map (·.size) = some size) (hn : n = Nat.min sLen dLen) (hl : cs.length = n * size)
    (hsrc : ∀ j v, cs[j]? = some v → w.cell? (a.add j) = some v) (hg : Cb w g old t) (ho : o + cs.length ≤ old.length) (h1 : ∀ v ∈ cs, v.oneCell' = true) :
    (Builtin.copy_ #[dT, sT] ty #[.slice (some ⟨g, o, none⟩) dLen dCap, .slice (some a) sLen sCap]).run P w = .ok (goInt n) (w.setRow g (over old o cs).toArray) := by
  have hld := run_loadCells_list (P := P) w a cs hsrc
  have hst := run_storeCells_part (P := P) g o t cs 0 old w hg (by omega) h1
  simp only [Nat.add_zero] at hst
  rw [hl] at hld
  unfold over
  cases hq : P.info? elem with
  | none => simp [hq] at hs
  | some i =>
    have hi : i.size = size := by simpa [hq] using hs
    simp [Builtin.copy_, run_underlying hu, Builtin.lenOf, Builtin.firstCells, sizeOf, typeInfo, hq, hi, ← hn, hld, hst]
theorem run_clear_none (w : World) (t e ty : TypeId) (ht : P.underlying t = some (.slice e)) (a : Option Addr) (c : Nat) :
    (Builtin.clear_ #[t] ty #[.slice a 0 c]).run P w = .ok (.tuple #[]) w := by
  cases a <;> simp [Builtin.clear_, run_underlying ht]
theorem run_clear_part (w : World) (t e ty : TypeId) (z : Value) (ht : P.underlying t = some (.slice e)) (hv : ∀ w, (zeroValue e).run P w = .ok z w) (g o n c : Nat) (zs old : List Value) (tt : TypeId) (hn : 0 < n)
    (hz : (Builtin.zeroCells z.cells n).toList = zs) (h1 : ∀ v ∈ zs, v.oneCell' = true) (hg : Cb w g old tt) (ho : o + zs.length ≤ old.length) :
    (Builtin.clear_ #[t] ty #[.slice (some ⟨g, o, none⟩) n c]).run P w = .ok (.tuple #[]) (w.setRow g (over old o zs).toArray) := by
  have hst := run_storeCells_part (P := P) g o tt zs 0 old w hg (by omega) h1
  simp only [Nat.add_zero] at hst
  obtain ⟨m, rfl⟩ : ∃ m, n = m + 1 := ⟨n - 1, by omega⟩
  unfold over
  simp [Builtin.clear_, run_underlying ht, hv, hz, hst]
theorem run_append_part (w : World) (t tx ty e : TypeId) (i : TypeInfo) (ht : P.underlying t = some (.slice e)) (hi : P.info? e = some i) (b off sLen sCap : Nat) (x : Value) (n : Nat) (news old : List Value) (tt : TypeId) (hs : Src P i.size tx x n news w)
    (hroom : sLen + n ≤ sCap) (hg : Cb w b old tt) (ho : off + sLen * i.size + news.length ≤ old.length) :
    (Builtin.append_ #[t, tx] ty #[.slice (some ⟨b, off, none⟩) sLen sCap, x]).run P w = .ok (.slice (some ⟨b, off, none⟩) (sLen + n) sCap) (w.setRow b (over old (off + sLen * i.size) news).toArray) := by
  have hst := run_storeCells_part (P := P) b (off + sLen * i.size) tt news 0 old w hg (by omega) hs.one
  simp only [Nat.add_zero] at hst
  unfold over
  rcases hs.kind with ⟨e', hk⟩ | hk <;> simp [Builtin.append_, run_underlying ht, run_underlying hk, sizeOf, typeInfo, hi, hs.len, hroom, hs.cells, Addr.add_lit, hst]

/-- The operation 'copy(d, s)', its run being known. -/
theorem wp_copy_known (w : World) {o : Oper} {a : Act} {K : Act → World → Prop} {Q : Exit → Act → World → Prop} (d s : Operand) (t t' : TypeId)
    (ho : o.op = .call { callee := .builtin .copy, args := #[d, s], argTypes := #[t, t'] }) (v u : Value) (hd : a.eval d = v) (hs : a.eval s = u) {v' : Value} {w' : World}
    (hr : (Builtin.copy_ #[t, t'] o.type #[v, u]).run P w = .ok v' w') (h : K (a.put o.dst v') w') : o.wp P a w K Q := by
  unfold Oper.wp execOp
  simp only [ho, resolve, invoke, builtin, Sem.run_bind, Sem.run_pure, Result.andThen_ok, List.map_toArray, List.map_cons, List.map_nil, hd, hs, hr]
  exact h
theorem wpList_copy_known (w : World) {ops : Array Oper} {rest : List Oper} {o : Oper} {a : Act} {Q : Exit → Act → World → Prop} (hgd : o.guard = none) (d s : Operand) (t t' : TypeId)
    (ho : o.op = .call { callee := .builtin .copy, args := #[d, s], argTypes := #[t, t'] }) (v u : Value) (hd : a.eval d = v) (hs : a.eval s = u) {v' : Value} {w' : World}
    (hr : (Builtin.copy_ #[t, t'] o.type #[v, u]).run P w = .ok v' w') (h : wpList P ops Q rest (a.put o.dst v') w') : wpList P ops Q (o :: rest) a w :=
  wpList_plain hgd fun _ hK => wp_copy_known w d s t t' ho v u hd hs hr (hK _ _ h)
/-- The operation 'clear(s)', its run being known. -/
theorem wpList_clear_known (w : World) {ops : Array Oper} {rest : List Oper} {o : Oper} {a : Act} {Q : Exit → Act → World → Prop} (hgd : o.guard = none) (s : Operand) (t : TypeId)
    (ho : o.op = .call { callee := .builtin .clear, args := #[s], argTypes := #[t] }) (v : Value) (hs : a.eval s = v) {v' : Value} {w' : World}
    (hr : (Builtin.clear_ #[t] o.type #[v]).run P w = .ok v' w') (h : wpList P ops Q rest (a.put o.dst v') w') : wpList P ops Q (o :: rest) a w := by
  refine wpList_plain hgd fun K hK => ?_
  unfold Oper.wp execOp
  simp only [ho, resolve, invoke, builtin, Sem.run_bind, Sem.run_pure, Result.andThen_ok, List.map_toArray, List.map_cons, List.map_nil, hs, hr]
  exact hK _ _ h
/-- The operation 'append(s, x...)', its run being known. -/
theorem wp_append_known (w : World) {o : Oper} {a : Act} {K : Act → World → Prop} {Q : Exit → Act → World → Prop} (s x : Operand) (t tn : TypeId)
    (ho : o.op = .call { callee := .builtin .append, args := #[s, x], argTypes := #[t, tn] }) (vs vx : Value) (hs : a.eval s = vs) (hx : a.eval x = vx)
    {v' : Value} {w' : World} (hr : (Builtin.append_ #[t, tn] o.type #[vs, vx]).run P w = .ok v' w') (h : K (a.put o.dst v') w') : o.wp P a w K Q := by
  unfold Oper.wp execOp
  simp only [ho, resolve, invoke, builtin, Sem.run_bind, Sem.run_pure, Result.andThen_ok, List.map_toArray, List.map_cons, List.map_nil, hs, hx, hr]
  exact h
theorem wpList_append_known (w : World) {ops : Array Oper} {rest : List Oper} {o : Oper} {a : Act} {Q : Exit → Act → World → Prop} (hgd : o.guard = none) (s x : Operand) (t tn : TypeId)
    (ho : o.op = .call { callee := .builtin .append, args := #[s, x], argTypes := #[t, tn] }) (vs vx : Value) (hs : a.eval s = vs) (hx : a.eval x = vx)
    {v' : Value} {w' : World} (hr : (Builtin.append_ #[t, tn] o.type #[vs, vx]).run P w = .ok v' w') (h : wpList P ops Q rest (a.put o.dst v') w') : wpList P ops Q (o :: rest) a w :=
  wpList_plain hgd fun _ hK => wp_append_known w s x t tn ho vs vx hs hx hr (hK _ _ h)
end
end Go.Proofs.YtjimemnkmpapgaaGreatDoor
