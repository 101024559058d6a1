/- What the landed tree's Of tells: a session's paths, sorted. -/
import Derived.Test.YtfcbdjjbchcpjaaDoorWPaths11
namespace Go.Proofs.YtfcbdjjbchcpjaaDoor.Tq
open Kq
theorem filt_step (f f' : En → Bool) {e0 : En} : ∀ {l : List En}, Rises (keys l) → e0 ∈ l → f e0 = false → f' e0 = true → (∀ e ∈ l, e.1 ≠ e0.1 → f' e = f e) → ((l.filter f').map (·.1)).Perm ((l.filter f).map (·.1) ++ [e0.1])
  | [], _, h, _, _, _ => by cases h
  | e :: l, hr, he, h0, h1, ho => by
    have hr' := hr
    unfold keys at hr
    rw [List.map_cons] at hr
    obtain ⟨h2, h3⟩ := List.pairwise_cons.1 hr
    by_cases hee : e.1 = e0.1
    · have hx : e = e0 := en_uniq hr' List.mem_cons_self he hee
      subst hx
      have hl : ∀ x ∈ l, f' x = f x := fun x hx => ho x (List.mem_cons_of_mem _ hx) (fun e2 => lt_ne (h2 x.1 (List.mem_map.2 ⟨x, hx, rfl⟩)) e2.symm)
      rw [List.filter_cons_of_pos h1, List.filter_cons_of_neg (by simp [h0]), List.filter_congr hl, List.map_cons]
      exact (List.perm_append_singleton _ _).symm
    · have hm : e0 ∈ l := by
        rcases List.mem_cons.1 he with e1 | e1
        · exact absurd (by rw [e1]) hee
        · exact e1
      have ih := filt_step f f' h3 hm h0 h1 (fun x hx => ho x (List.mem_cons_of_mem _ hx))
      have hfe := ho e List.mem_cons_self hee
      cases hfv : f e with
      | true =>
        rw [List.filter_cons_of_pos (by rw [hfe, hfv]), List.filter_cons_of_pos hfv, List.map_cons, List.map_cons, List.cons_append]
        exact ih.cons _
      | false =>
        rw [List.filter_cons_of_neg (by simp [hfe, hfv]), List.filter_cons_of_neg (by simp [hfv])]
        exact ih
theorem ofs_rises {t : Tr} (hr : Rises (keys t.l)) (s : Int) : Rises (ofs t s) := by
  unfold ofs
  split
  · have h : ((t.l.filter fun e => decide (e.2.owner = s)).map (·.1)).Sublist (keys t.l) := List.Sublist.map _ List.filter_sublist
    exact List.Pairwise.sublist h hr
  · exact List.Pairwise.nil
end Go.Proofs.YtfcbdjjbchcpjaaDoor.Tq
namespace Go.Proofs.YtfcbdjjbchcpjaaDoor
open Go.RowKit Go.Sort

/-- 'append(s, x...)', of texts, with what it leaves alone. -/
theorem append_strs2 {ops : Array Oper} {rest : List Oper} {o : Oper} {a : Act} {Q : Exit → Act → World → Prop} (hgd : o.guard = none) (s x : Operand)
    (ho : o.op = .call { callee := .builtin .append, args := #[s, x], argTypes := #[28, 28] })
    (B : Nat) (v u : Value) (ls ms : List ByteArray) (w : World) (hs : a.eval s = v) (hx : a.eval x = u) (hown : w.ownsRow B 9 1 v ls.length (sc ls)) (hB : B ≤ w.heap.size) (hb : Src w u ms) (hN : ls.length + ms.length ≤ 3000)
    (h : ∀ v' w', w'.ownsRow B 9 1 v' (ls ++ ms).length (sc (ls ++ ms)) → Below B w w' → w.grownBy w' v.ownBlock → wpList Tryd.prog ops Q rest (a.put o.dst v') w') : wpList Tryd.prog ops Q (o :: rest) a w :=
  wpList_plain hgd fun _ hK => wp_strs s x ho B v u ls ms w hs hx hown hB hb hN (fun v' w' h1 h2 h3 => hK _ _ (h v' w' h1 h2 h3))

theorem ranges_keep {w w' : World} {b r n : Nat} {D : DataW Nat} {left : Lit → Bool} {cnt : Nat} (h : w.ranges Tryd.prog 9 fElem b r n D left cnt) (hb : w'.heap[b]? = w.heap[b]?) (hr : w'.heap[r]? = w.heap[r]?) : w'.ranges Tryd.prog 9 fElem b r n D left cnt := by
  obtain ⟨es, clock, since, seen, c0, h1, F, hs, hD, h2, rest⟩ := h
  exact ⟨es, clock, since, seen, c0, hb.trans h1, F, hs, hD, hr.trans h2, rest⟩

/-- What Of has under way. -/
structure OfS (w wr : World) (q r m : Nat) (t : Tq.Tr) (s : Int) (G : Nat → Prop) (D : DataW Nat) (P : ByteArray → Nat) (V : ByteArray → Value) (left : Lit → Bool) (cnt : Nat) (ls : List ByteArray) (v : Value) : Prop where
  rg : wr.ranges Tryd.prog 9 fElem m r t.l.length D left cnt
  tk : TkU wr q t G m D P V
  row : wr.ownsRow w.heap.size 9 1 v ls.length (sc ls)
  perm : ls.Perm ((t.l.filter fun e => decide (e.2.owner = s) && !left (fkey e.1)).map (·.1))
  below : Below w.heap.size w wr
  lt : r < wr.heap.size
  hi : w.heap.size ≤ r

section
variable {w : World} {q m : Nat} {t : Tq.Tr} {G : Nat → Prop} {D : DataW Nat} {P : ByteArray → Nat} {V : ByteArray → Value}
end
end Go.Proofs.YtfcbdjjbchcpjaaDoor
