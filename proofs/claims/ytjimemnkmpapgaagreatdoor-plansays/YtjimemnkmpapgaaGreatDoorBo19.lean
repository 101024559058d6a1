/- Two Tables, apart from each other. First names that are handed to 'append'. -/
import Derived.Test.YtjimemnkmpapgaaGreatDoorSpecs16
import Derived.Test.YtjimemnkmpapgaaGreatDoorRt16
import Derived.Lib.OwnBridge
namespace Go.Proofs.YtjimemnkmpapgaaGreatDoor
open Go.RowKit

theorem Moved.orl16 {w w' : World} {F F' : Nat → Prop} (h : Moved w w' F F') (G : Nat → Prop) : Moved w w' (fun k => F k ∨ G k) (fun k => F' k ∨ G k) :=
  ⟨h.os, h.tape, h.output, h.size, fun k hk hn => h.block k hk (fun e => hn (Or.inl e)), fun k hk => hk.elim (fun e => (h.sub k e).elim (fun e => Or.inl (Or.inl e)) Or.inr) (fun e => Or.inl (Or.inr e))⟩
theorem Moved.orr16 {w w' : World} {G G' : Nat → Prop} (h : Moved w w' G G') (F : Nat → Prop) : Moved w w' (fun k => F k ∨ G k) (fun k => F k ∨ G' k) :=
  ⟨h.os, h.tape, h.output, h.size, fun k hk hn => h.block k hk (fun e => hn (Or.inr e)), fun k hk => hk.elim (fun e => Or.inl (Or.inl e)) (fun e => (h.sub k e).elim (fun e => Or.inl (Or.inr e)) Or.inr)⟩
/-- Two Tables, apart from each other. -/
structure Bo16 (LS LT : Rep16) (W w : World) (q r : Nat) (m : Int) (s t : Tb.St) (F G : Nat → Prop) : Prop where
  one : Mine16 LS W w q m s F
  two : Mine16 LT W w r m t G
  off : ∀ k, F k → ¬ G k
section
variable {LS LT : Rep16} {W w w' : World} {q r : Nat} {m m' : Int} {s t s' t' : Tb.St} {F G F' G' : Nat → Prop}
theorem Bo16.later (S : Specs16 LS) (ltk : ∀ {w q s F k}, LT w q s F → F k → k < w.heap.size) (kpk : ∀ {w w' : World} {q s F}, LT w q s F → (∀ k, F k → w'.heap[k]? = w.heap[k]?) → LT w' q s F) (h : Bo16 LS LT W w q r m s t F G) (hb : Below w.heap.size w w') : Bo16 LS LT W w' q r m s t F G :=
  ⟨h.one.later S hb, h.two.step (kpk h.two.ld fun k hk => hb.block k (ltk h.two.ld hk)) h.two.fine (Moved.of_below G hb), h.off⟩
theorem Bo16.mono (h : Bo16 LS LT W w q r m s t F G) (hm : m ≤ m') : Bo16 LS LT W w q r m' s t F G := ⟨h.one.mono hm, h.two.mono hm, h.off⟩
/-- The first has moved. -/
theorem Bo16.first (ltk : ∀ {w q s F k}, LT w q s F → F k → k < w.heap.size) (kpk : ∀ {w w' : World} {q s F}, LT w q s F → (∀ k, F k → w'.heap[k]? = w.heap[k]?) → LT w' q s F) (h : Bo16 LS LT W w q r m s t F G) (h1 : Mine16 LS W w' q m' s' F') (hv : Moved w w' F F') (hm : m ≤ m') : Bo16 LS LT W w' q r m' s' t F' G :=
  ⟨h1, ⟨kpk h.two.ld fun k hk => hv.block k (ltk h.two.ld hk) (fun e => h.off k e hk), h.two.fine.mono hm, h.two.hi, h1.below⟩, fun k hk e => (hv.sub k hk).elim (fun e2 => h.off k e2 e) (fun e2 => by have := ltk h.two.ld e; omega)⟩
/-- The second has moved. -/
theorem Bo16.second (S : Specs16 LS) (h : Bo16 LS LT W w q r m s t F G) (h2 : Mine16 LT W w' r m' t' G') (hv : Moved w w' G G') (hm : m ≤ m') : Bo16 LS LT W w' q r m' s t' F G' :=
  ⟨⟨S.keep h.one.ld fun k hk => hv.block k (S.lt h.one.ld hk) (h.off k hk), h.one.fine.mono hm, h.one.hi, h2.below⟩, h2, fun k hk e => (hv.sub k e).elim (h.off k hk) (fun e2 => by have := S.lt h.one.ld hk; omega)⟩
end

end Go.Proofs.YtjimemnkmpapgaaGreatDoor
namespace Go.Proofs.YtjimemnkmpapgaaGreatDoor
open Go.RowKit

def Smc (w : World) (u : Value) (ms : List Tb.Mv) : Prop := (u = .slice none 0 0 ∧ ms = []) ∨ ∃ g o c, u = .slice (some ⟨g, o, none⟩) ms.length c ∧ ∀ (j : Nat) y, (mcs ms)[j]? = some y → w.cell? ⟨g, o + j, none⟩ = some y
theorem Smc.below {w w' : World} {u : Value} {ms : List Tb.Mv} (h : Smc w u ms) (hb : Below w.heap.size w w') : Smc w' u ms := by
  rcases h with h | ⟨g, o, c, h1, h2⟩
  · exact Or.inl h
  · exact Or.inr ⟨g, o, c, h1, fun j y hy => Below.kept hb (h2 j y hy)⟩
theorem Smc.one {w : World} {sb : Nat} {x : Tb.Mv} {t : TypeId} (h : Cb w sb (mc x) t) : Smc w (.slice (some ⟨sb, 0, none⟩) 1 1) [x] := by
  refine Or.inr ⟨sb, 0, 1, rfl, fun j y hy => ?_⟩
  have e : mcs [x] = mc x := by unfold mcs; simp
  rw [e] at hy
  rw [Nat.zero_add, h.cell j]
  exact hy
theorem Smc.row {w : World} {B t : Nat} {v : Value} {l : List Tb.Mv} (h : w.ownsRow B t 2 v l.length (mcs l)) : Smc w v l := by
  rcases h.2 with ⟨rfl, h0⟩ | ⟨g, c, cur, rfl, _⟩
  · exact Or.inl ⟨rfl, List.length_eq_zero_iff.1 h0⟩
  · refine Or.inr ⟨g, 0, c, rfl, fun j y hy => ?_⟩
    have hj := (List.getElem?_eq_some_iff.1 hy).1
    rw [mcs_len] at hj
    rw [Nat.zero_add, h.cellAt _ hj]
    exact hy
/-- A part of a row: 's[i:j]'. -/
theorem Smc.part {w : World} {B t : Nat} {g N c : Nat} {l : List Tb.Mv} (h : w.ownsRow B t 2 (.slice (some ⟨g, 0, none⟩) N c) N (mcs l)) (hN : N = l.length) (i k c' : Nat) (hi : i + k ≤ N) : Smc w (.slice (some ⟨g, i * 2, none⟩) k c') ((l.drop i).take k) := by
  refine Or.inr ⟨g, i * 2, c', by rw [List.length_take, List.length_drop, Nat.min_eq_left (by omega)], fun j y hy => ?_⟩
  have hj := (List.getElem?_eq_some_iff.1 hy).1
  rw [mcs_len, List.length_take, List.length_drop, Nat.min_eq_left (by omega)] at hj
  rw [h.cellAt _ (by omega)]
  rw [← mcs_take, ← mcs_drop, List.getElem?_take, if_pos hj, List.getElem?_drop] at hy
  exact hy
theorem wp_mc16 {T LT : TypeId} (hT : (Tryz.prog.info? T).map (fun i => (i.zero, i.size, i.bytes)) = some (some (.agg #[.string ⟨#[]⟩, .int .i64 0]), 2, 24)) (hU : Tryz.prog.underlying LT = some (.slice T)) {o : Oper} {a : Act} {K : Act → World → Prop} {Q : Exit → Act → World → Prop} (s x : Operand)
    (ho : o.op = .call { callee := .builtin .append, args := #[s, x], argTypes := #[LT, LT] })
    (B : Nat) (v u : Value) (es ms : List Tb.Mv) (w : World) (hs : a.eval s = v) (hx : a.eval x = u) (hown : w.ownsRow B T 2 v es.length (mcs es)) (hB : B ≤ w.heap.size) (hb : Smc w u ms) (hN : es.length + ms.length ≤ 3000)
    (h : ∀ v' w', w'.ownsRow B T 2 v' (es ++ ms).length (mcs (es ++ ms)) → Below B w w' → w.grownBy w' v.ownBlock → (v'.ownBlock = v.ownBlock ∨ v'.ownBlock = some w.heap.size) → K (a.put o.dst v') w') : o.wp Tryz.prog a w K Q := by
  obtain ⟨i0, hi, hz0, hz1, hz2⟩ := info_parts hT
  rcases hb with ⟨rfl, rfl⟩ | ⟨g, ob, c, rfl, hcs⟩
  · have hrun := run_append_owned_none (P := Tryz.prog) (w := w) B LT o.type T i0 2 hU hi v es.length (mcs es) hown
    have hx2 : a.eval x = .slice none 0 0 := hx
    unfold Oper.wp
    simp [execOp, ho, resolve, invoke, builtin, hs, hx2, hrun, Result.andThen]
    exact h v w (by simpa using hown) (Below.refl _ _) ⟨rfl, rfl, rfl, Nat.le_refl _, fun _ _ _ => rfl⟩ (Or.inl rfl)
  · have hcell : ∀ j y, (mcs ms)[j]? = some y → w.cell? ((⟨g, ob, none⟩ : Addr).add j) = some y := fun j y hy => by
      rw [Addr.add_lit]
      exact hcs j y hy
    obtain ⟨v', w', hr, h2, h3, h4, h5⟩ := run_append_own_at (P := Tryz.prog) w B LT o.type T i0 _ 2 24 hU hi hz0 hz1 hz2 rfl (by decide) v es.length (mcs es) hown ⟨g, ob, none⟩ ms.length c (mcs ms) (mcs_len ms) hcell (mcs_one ms) (by unfold maxLen; omega) (by omega) hB
    unfold Oper.wp execOp
    simp only [ho, resolve, invoke, builtin, Sem.run_bind, Sem.run_pure, Result.andThen_ok, List.map_toArray, List.map_cons, List.map_nil, hs, hx, hr]
    exact h v' w' (by rw [mcs_app, List.length_append]; exact h2) ((Below.refl _ w).grown h3 hB (fun k hk => (hown.lt k hk).1)) h3 h5
/-- The same, the slot's number being named. -/
theorem wp_mcd16 {T LT : TypeId} (hT : (Tryz.prog.info? T).map (fun i => (i.zero, i.size, i.bytes)) = some (some (.agg #[.string ⟨#[]⟩, .int .i64 0]), 2, 24)) (hU : Tryz.prog.underlying LT = some (.slice T)) {o : Oper} {a : Act} {K : Act → World → Prop} {Q : Exit → Act → World → Prop} (s x : Operand)
    (ho : o.op = .call { callee := .builtin .append, args := #[s, x], argTypes := #[LT, LT] }) (d : Nat) (hd : o.dst = some d)
    (B : Nat) (v u : Value) (es ms : List Tb.Mv) (w : World) (hs : a.eval s = v) (hx : a.eval x = u) (hown : w.ownsRow B T 2 v es.length (mcs es)) (hB : B ≤ w.heap.size) (hb : Smc w u ms) (hN : es.length + ms.length ≤ 3000)
    (h : ∀ v' w', w'.ownsRow B T 2 v' (es ++ ms).length (mcs (es ++ ms)) → Below B w w' → w.grownBy w' v.ownBlock → (v'.ownBlock = v.ownBlock ∨ v'.ownBlock = some w.heap.size) → K { a with tmps := a.tmps.setIfInBounds d v' } w') : o.wp Tryz.prog a w K Q :=
  wp_mc16 hT hU s x ho B v u es ms w hs hx hown hB hb hN (fun v' w' h1 h2 h3 h4 => by
    have k := h v' w' h1 h2 h3 h4
    unfold Act.put
    rw [hd]
    exact k)
theorem wpList_mc16 {T LT : TypeId} (hT : (Tryz.prog.info? T).map (fun i => (i.zero, i.size, i.bytes)) = some (some (.agg #[.string ⟨#[]⟩, .int .i64 0]), 2, 24)) (hU : Tryz.prog.underlying LT = some (.slice T)) {ops : Array Oper} {rest : List Oper} {o : Oper} {a : Act} {Q : Exit → Act → World → Prop} (hgd : o.guard = none) (s x : Operand)
    (ho : o.op = .call { callee := .builtin .append, args := #[s, x], argTypes := #[LT, LT] })
    (B : Nat) (v u : Value) (es ms : List Tb.Mv) (w : World) (hs : a.eval s = v) (hx : a.eval x = u) (hown : w.ownsRow B T 2 v es.length (mcs es)) (hB : B ≤ w.heap.size) (hb : Smc w u ms) (hN : es.length + ms.length ≤ 3000)
    (h : ∀ v' w', w'.ownsRow B T 2 v' (es ++ ms).length (mcs (es ++ ms)) → Below B w w' → w.grownBy w' v.ownBlock → (v'.ownBlock = v.ownBlock ∨ v'.ownBlock = some w.heap.size) → wpList Tryz.prog ops Q rest (a.put o.dst v') w') : wpList Tryz.prog ops Q (o :: rest) a w :=
  wpList_plain hgd fun _ hK => wp_mc16 hT hU s x ho B v u es ms w hs hx hown hB hb hN (fun v' w' h1 h2 h3 h4 => hK _ _ (h v' w' h1 h2 h3 h4))

end Go.Proofs.YtjimemnkmpapgaaGreatDoor
