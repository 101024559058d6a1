/- Rows of bytes that a call owns, each in a row of its own. -/
import Derived.Test.YtkldecdjokfajaaBase
namespace Go.Proofs.Ytkldecdjokfajaa
open Go.RowKit

theorem infoBytes : (Try.prog.info? 66).map (fun i => (i.zero, i.size, i.bytes)) = some (some (.slice none 0 0), 1, 24) := by kernel_rfl

/-- A slice of rows of bytes, all owned from block B on. -/
def Lo (w : World) (B : Nat) (v : Value) (ls : List (List UInt8)) : Prop :=
  ∃ us : List Value, w.ownsRow B 66 1 v ls.length us ∧ ∀ (j : Nat) xs u, ls[j]? = some xs → us[j]? = some u → w.ownsRow B 5 1 u xs.length (bc xs)

/-- Rows of two kinds lie in two blocks. -/
theorem own_kinds {w : World} {B B' n m : Nat} {e e' : TypeId} {v u : Value} {xs ys : List Value} (h : w.ownsRow B e 1 v n xs) (k : w.ownsRow B' e' 1 u m ys) (hne : e ≠ e') : u.ownBlock = none ∨ u.ownBlock ≠ v.ownBlock := by
  rcases k.2 with ⟨rfl, _⟩ | ⟨g, cap, cur, rfl, _, hg, _⟩
  · exact Or.inl rfl
  · refine Or.inr fun e1 => ?_
    rcases h.2 with ⟨rfl, _⟩ | ⟨g', cap', cur', rfl, _, hg', _⟩
    · simp [Value.ownBlock] at e1
    · simp only [Value.ownBlock, Option.some.injEq] at e1
      subst e1
      rw [hg] at hg'
      simp only [Option.some.injEq, Obj.cells.injEq] at hg'
      exact hne hg'.2.1.symm

theorem Lo.nil (w : World) (B : Nat) : Lo w B (.slice none 0 0) [] := ⟨[], World.ownsRow_nil _ _ _ _, fun j xs u h => by simp at h⟩

theorem Lo.grown {w w' : World} {B : Nat} {v : Value} {ls : List (List UInt8)} (h : Lo w B v ls) (hb : Below w.heap.size w w') : Lo w' B v ls := by
  obtain ⟨us, h1, h2⟩ := h
  have hg : w.grownBy w' none := grownBy_below hb
  have hn : ∀ o : Option Nat, o = none ∨ o ≠ none := fun o => by cases o <;> simp
  exact ⟨us, h1.kept hg (hn _), fun j xs u hx hu => (h2 j xs u hx hu).kept hg (hn _)⟩

theorem Lo.bl {w : World} {B : Nat} {v : Value} {ls : List (List UInt8)} (h : Lo w B v ls) : Bl w v ls := by
  obtain ⟨us, h1, h2⟩ := h
  have hul : us.length = ls.length := by have := h1.1; omega
  rcases h1.2 with ⟨rfl, h0⟩ | ⟨g, cap, cur, rfl, _⟩
  · refine ⟨none, 0, 0, rfl, h0.symm, fun j xs hx => ?_⟩
    have := (List.getElem?_eq_some_iff.1 hx).1
    omega
  · refine ⟨some ⟨g, 0, none⟩, ls.length, cap, rfl, rfl, fun j xs hx => ?_⟩
    have hj := (List.getElem?_eq_some_iff.1 hx).1
    have hju : j < us.length := by omega
    refine ⟨g, 0, us[j], rfl, ?_, Bs.own (h2 j xs us[j] hx (List.getElem?_eq_getElem hju))⟩
    rw [Nat.zero_add, h1.cellAt j (by omega), List.getElem?_eq_getElem hju]

theorem own_one {w : World} {B n : Nat} {u : Value} {xs : List Value} (h : w.ownsRow B 5 1 u n xs) : u.oneCell' = true := by
  obtain ⟨ao, c, rfl⟩ := own_shape h
  rfl

/-- 'append(l, rec)'. -/
theorem append_row {ops : Array Oper} {rest : List Oper} {o : Oper} {a : Act} {Q : Exit → Act → World → Prop} (hgd : o.guard = none) (s x : Operand)
    (ho : o.op = .call { callee := .builtin .append, args := #[s, x], argTypes := #[29, 29] })
    (B : Nat) (v u : Value) (ls : List (List UInt8)) (xs : List UInt8) (w0 : World) (hs : a.eval s = v) (hx : a.eval x = .slice (some ⟨w0.heap.size, 0, none⟩) 1 1) (hL : Lo w0 B v ls) (hu : w0.ownsRow B 5 1 u xs.length (bc xs)) (hB : B ≤ w0.heap.size) (hN : ls.length ≤ 1000000)
    (h : ∀ v' w', Lo w' B v' (ls ++ [xs]) → Below B w0 w' → wpList Try.prog ops Q rest (a.put o.dst v') w') : wpList Try.prog ops Q (o :: rest) a (w0.alloc (.cells #[u] 66)) := by
  obtain ⟨i0, hi, hz0, hz1, hz2⟩ := info_parts infoBytes
  have hLa := hL.grown ((Below.refl _ w0).alloc (Nat.le_refl _) (.cells #[u] 66))
  have hua := hu.alloc (.cells #[u] 66)
  obtain ⟨us, h1, h2⟩ := hLa
  have hul : us.length = ls.length := by have := h1.1; omega
  refine wpList_append_own _ hgd s x 29 ho B 66 i0 (.slice none 0 0) 1 24 Try.underlying29 hi hz0 hz1 hz2 rfl (by decide) v ls.length us hs h1 ⟨w0.heap.size, 0, none⟩ 1 1 [u] hx rfl ?_ ?_ (by unfold maxLen; omega) (by omega) (by simp; omega) ?_
  · intro j y hj
    match j, hj with
    | 0, hj => simp at hj; subst hj; simp [Addr.add]
    | (j + 1), hj => simp at hj
  · intro y hy
    simp at hy
    subst hy
    exact own_one hu
  · intro v' w' ho' hg _
    refine h v' w' ⟨us ++ [u], by simpa using ho', fun j ys y hy hyu => ?_⟩ (((Below.refl B w0).alloc hB _).grown hg (by simp; omega) (fun k hk => (h1.lt k hk).1))
    by_cases hj : j < ls.length
    · rw [List.getElem?_append_left hj] at hy
      rw [List.getElem?_append_left (by omega)] at hyu
      have hk := h2 j ys y hy hyu
      exact hk.kept hg (own_kinds h1 hk (by decide))
    · have hj2 : j = ls.length := by
        have := (List.getElem?_eq_some_iff.1 hy).1
        simp at this
        omega
      subst hj2
      rw [List.getElem?_append_right (Nat.le_refl _), Nat.sub_self] at hy
      rw [List.getElem?_append_right (by omega), hul, Nat.sub_self] at hyu
      simp at hy hyu
      subst hy hyu
      exact hua.kept hg (own_kinds h1 hua (by decide))

theorem Bs.drop {w : World} {g o n c k : Nat} {xs : List UInt8} (h : Bs w (.slice (some ⟨g, o, none⟩) n c) xs) (hk : k ≤ n) : Bs w (.slice (some ⟨g, o + k, none⟩) (n - k) (c - k)) (xs.drop k) := by
  by_cases h0 : 0 < xs.length
  · obtain ⟨g', o', n', c', hv, hn, hc, hcs⟩ := h.plain h0
    simp only [Value.slice.injEq, Option.some.injEq, Addr.mk.injEq, and_true] at hv
    obtain ⟨⟨rfl, rfl⟩, rfl, rfl⟩ := hv
    refine bs_of_plain (by rw [List.length_drop]; omega) (by omega) (fun j x hx => ?_)
    rw [List.getElem?_drop] at hx
    rw [Nat.add_assoc]
    exact hcs (k + j) x hx
  · obtain ⟨ao, n', c', hv, hn, hs⟩ := h
    simp only [Value.slice.injEq] at hv
    obtain ⟨_, rfl, rfl⟩ := hv
    have hx : xs = [] := List.length_eq_zero_iff.1 (by omega)
    subst hx
    refine bs_of_plain (by simp at hn; simp; omega) (by have := hs.cap; simp at hn; omega) (fun j x hx => by simp at hx)

/-- No bytes, wherever. -/
theorem Bs.none (w : World) (g o c : Nat) : Bs w (.slice (some ⟨g, o, none⟩) 0 c) [] := bs_of_plain rfl (Nat.zero_le _) (fun j x hx => by simp at hx)
end Go.Proofs.Ytkldecdjokfajaa
