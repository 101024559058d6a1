/- Texts that a call owns, and texts behind them. -/
import Derived.Test.YtjimemnkmpapgaaGreatDoorBase
namespace Go.Proofs.YtjimemnkmpapgaaGreatDoor
open Go.RowKit

theorem infoText : (Tryz.prog.info? 9).map (fun i => (i.zero, i.size, i.bytes)) = some (some (.string ⟨#[]⟩), 1, 16) := by kernel_rfl
def sc (ts : List ByteArray) : List Value := ts.map Value.string
theorem sc_one (xs : List ByteArray) : ∀ u ∈ sc xs, u.oneCell' = true := by
  intro u hu
  obtain ⟨x, _, rfl⟩ := List.mem_map.1 hu
  rfl

/-- Texts that are handed to 'append'. -/
def Src (w : World) (u : Value) (ms : List ByteArray) : Prop := (u = .slice none 0 0 ∧ ms = []) ∨ ∃ g o c, u = .slice (some ⟨g, o, none⟩) ms.length c ∧ ∀ (j : Nat) s, ms[j]? = some s → w.cell? ⟨g, o + j, none⟩ = some (.string s)
theorem Src.below {w w' : World} {u : Value} {ms : List ByteArray} (h : Src w u ms) (hb : Below w.heap.size w w') : Src w' u ms := by
  rcases h with h | ⟨g, o, c, h1, h2⟩
  · exact Or.inl h
  · exact Or.inr ⟨g, o, c, h1, fun j s hs => Below.kept hb (h2 j s hs)⟩

/-- 'append(s, x...)': texts behind what the call owns. -/
theorem append_strs {ops : Array Oper} {rest : List Oper} {o : Oper} {a : Act} {Q : Exit → Act → World → Prop} (hgd : o.guard = none) (s x : Operand)
    (ho : o.op = .call { callee := .builtin .append, args := #[s, x], argTypes := #[46, 46] })
    (B : Nat) (v u : Value) (ls ms : List ByteArray) (w : World) (hs : a.eval s = v) (hx : a.eval x = u) (hown : w.ownsRow B 9 1 v ls.length (sc ls)) (hB : B ≤ w.heap.size) (hb : Src w u ms) (hN : ls.length + ms.length ≤ 3000)
    (h : ∀ v' w', w'.ownsRow B 9 1 v' (ls ++ ms).length (sc (ls ++ ms)) → Below B w w' → wpList Tryz.prog ops Q rest (a.put o.dst v') w') : wpList Tryz.prog ops Q (o :: rest) a w := by
  obtain ⟨i0, hi, hz0, hz1, hz2⟩ := info_parts infoText
  rcases hb with ⟨rfl, rfl⟩ | ⟨g, ob, c, rfl, hcs⟩
  · exact wpList_append_own_none hgd s x 46 ho B 9 i0 1 Tryz.underlying46 hi v ls.length (sc ls) hs hown hx (h _ _ (by simpa using hown) (Below.refl _ w))
  · refine wpList_append_own _ hgd s x 46 ho B 9 i0 (.string ⟨#[]⟩) 1 16 Tryz.underlying46 hi hz0 hz1 hz2 rfl (by decide) v ls.length (sc ls) hs hown ⟨g, ob, none⟩ ms.length c (sc ms) hx (by simp [sc]) ?_ (sc_one ms) (by unfold maxLen; omega) (by omega) hB ?_
    · intro j y hy
      unfold sc at hy
      rw [List.getElem?_map] at hy
      cases he : ms[j]? with
      | none => rw [he] at hy; cases hy
      | some z =>
        rw [he] at hy
        obtain rfl := Option.some.inj hy
        rw [Addr.add_lit]
        exact hcs j z he
    · intro v' w' ho' hg _
      exact h v' w' (by unfold sc at ho' ⊢; rw [List.length_append, List.map_append]; exact ho') ((Below.refl _ w).grown hg hB (fun k hk => (hown.lt k hk).1))

/-- The same, within a drawn region. -/
theorem wp_strs {o : Oper} {a : Act} {K : Act → World → Prop} {Q : Exit → Act → World → Prop} (s x : Operand)
    (ho : o.op = .call { callee := .builtin .append, args := #[s, x], argTypes := #[46, 46] })
    (B : Nat) (v u : Value) (ls ms : List ByteArray) (w : World) (hs : a.eval s = v) (hx : a.eval x = u) (hown : w.ownsRow B 9 1 v ls.length (sc ls)) (hB : B ≤ w.heap.size) (hb : Src w u ms) (hN : ls.length + ms.length ≤ 3000)
    (h : ∀ v' w', w'.ownsRow B 9 1 v' (ls ++ ms).length (sc (ls ++ ms)) → Below B w w' → w.grownBy w' v.ownBlock → K (a.put o.dst v') w') : o.wp Tryz.prog a w K Q := by
  obtain ⟨i0, hi, hz0, hz1, hz2⟩ := info_parts infoText
  rcases hb with ⟨rfl, rfl⟩ | ⟨g, ob, c, rfl, hcs⟩
  · have hrun := run_append_owned_none (P := Tryz.prog) (w := w) B 46 o.type 9 i0 1 Tryz.underlying46 hi v ls.length (sc ls) hown
    have hx2 : a.eval x = .slice none 0 0 := hx
    unfold Oper.wp
    simp [execOp, ho, resolve, invoke, builtin, hs, hx2, hrun, Result.andThen]
    exact h v w (by simpa using hown) (Below.refl _ _) ⟨rfl, rfl, rfl, Nat.le_refl _, fun _ _ _ => rfl⟩
  · refine wp_append_own w s x 46 ho B 9 i0 (.string ⟨#[]⟩) 1 16 Tryz.underlying46 hi hz0 hz1 hz2 rfl (by decide) v ls.length (sc ls) hs hown ⟨g, ob, none⟩ ms.length c (sc ms) hx (by simp [sc]) ?_ (sc_one ms) (by unfold maxLen; omega) (by omega) hB ?_
    · intro j y hy
      unfold sc at hy
      rw [List.getElem?_map] at hy
      cases he : ms[j]? with
      | none => rw [he] at hy; cases hy
      | some z =>
        rw [he] at hy
        obtain rfl := Option.some.inj hy
        rw [Addr.add_lit]
        exact hcs j z he
    · intro v' w' ho' hg _
      exact h v' w' (by unfold sc at ho' ⊢; rw [List.length_append, List.map_append]; exact ho') ((Below.refl _ w).grown hg hB (fun k hk => (hown.lt k hk).1)) hg

theorem Src.one (w : World) (x : ByteArray) (t : TypeId) : Src (w.alloc (.cells #[.string x] t)) (.slice (some ⟨w.heap.size, 0, none⟩) 1 1) [x] := by
  refine Or.inr ⟨w.heap.size, 0, 1, rfl, fun j s hs => ?_⟩
  match j, hs with
  | 0, hs => simp at hs; subst hs; exact cell?_alloc_at _ _ _ _ _ _ rfl
  | (j + 1), hs => simp at hs
theorem Src.grown {w w' : World} {g c : Nat} {x : ByteArray} {row : Option Nat} (h : Src w (.slice (some ⟨g, 0, none⟩) 1 c) [x]) (hg : w.grownBy w' row) (hne : row ≠ some g) : Src w' (.slice (some ⟨g, 0, none⟩) 1 c) [x] := by
  rcases h with ⟨h1, _⟩ | ⟨g', o, c', h1, h2⟩
  · cases h1
  · simp only [Value.slice.injEq, Option.some.injEq, Addr.mk.injEq, and_true] at h1
    obtain ⟨⟨rfl, rfl⟩, _, rfl⟩ := h1
    refine Or.inr ⟨g, 0, c, rfl, fun j s hs => ?_⟩
    have h3 := h2 j s hs
    have hlt := World.block_lt_of_cell? w _ h3
    exact (World.cell?_of_block (hg.block g hlt (fun e => hne e.symm))).trans h3
end Go.Proofs.YtjimemnkmpapgaaGreatDoor
