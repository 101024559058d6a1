/- The reference's disk: files in a row that it owns. -/
import Derived.Test.YtphmmdjefpfehaaSpecs7
import Derived.Test.YtphmmdjefpfehaaTakeAt
import Derived.BigRegion
import Derived.Deep.QuietTactic
import Derived.BigQuiet
import Derived.Deep.RegionWith
import Derived.Laws.AppendOwnNone
namespace Go.Proofs.Ytphmmdjefpfehaa
open Go.RowKit

/-- A file's cells; its bytes lie elsewhere. -/
def fc (p : Dq.Fl × Value) : List Value := [.string p.1.name, p.2, .int .i64 (p.1.safe : Int)]
def fcs (ps : List (Dq.Fl × Value)) : List Value := ps.flatMap fc

theorem fc_len (p : Dq.Fl × Value) : (fc p).length = 3 := rfl
theorem fcs_len (ps : List (Dq.Fl × Value)) : (fcs ps).length = ps.length * 3 := by
  unfold fcs
  induction ps with
  | nil => rfl
  | cons p ps ih => rw [List.flatMap_cons, List.length_append, fc_len, ih, List.length_cons]; omega
theorem fcs_get : ∀ (ps : List (Dq.Fl × Value)) (j : Nat), (fcs ps)[j]? = (ps[j / 3]?).bind fun p => (fc p)[j % 3]?
  | [], j => by simp [fcs]
  | p :: ps, j => by
    have ih := fcs_get ps (j - 3)
    unfold fcs at ih ⊢
    rw [List.flatMap_cons]
    by_cases hj : j < 3
    · have e1 : j / 3 = 0 := by omega
      have e2 : j % 3 = j := by omega
      rw [List.getElem?_append_left (by rw [fc_len]; exact hj), e1, e2]
      rfl
    · have e1 : j / 3 = (j - 3) / 3 + 1 := by omega
      have e2 : j % 3 = (j - 3) % 3 := by omega
      rw [List.getElem?_append_right (by rw [fc_len]; omega), fc_len, ih, e1, e2, List.getElem?_cons_succ]
theorem fcs_app (a b : List (Dq.Fl × Value)) : fcs (a ++ b) = fcs a ++ fcs b := by simp [fcs]

theorem infoFile : (Try.prog.info? 47).map (fun i => (i.zero, i.size, i.bytes)) = some (some (.agg #[.string ⟨#[]⟩, .slice none 0 0, .int .i64 0]), 3, 48) := by kernel_rfl

/-- A row of files that the disk owns from block B on, their bytes too. -/
structure Fo (w : World) (B : Nat) (v : Value) (ps : List (Dq.Fl × Value)) : Prop where
  own : w.ownsRow B 47 3 v ps.length (fcs ps)
  bytes : ∀ p ∈ ps, w.ownsRow B 5 1 p.2 p.1.b.length (bc p.1.b)

theorem own_apart7 {w : World} {B B' n m s s' : Nat} {e e' : TypeId} {v u : Value} {xs ys : List Value} (h : w.ownsRow B e s v n xs) (k : w.ownsRow B' e' s' u m ys) (hne : e ≠ e') : u.ownBlock = none ∨ u.ownBlock ≠ v.ownBlock := by
  rcases k.2 with ⟨rfl, _⟩ | ⟨g, cap, cur, rfl, _, hg, _⟩
  · exact Or.inl rfl
  · refine Or.inr fun e1 => ?_
    rcases h.2 with ⟨rfl, _⟩ | ⟨g', cap', cur', rfl, _, hg', _⟩
    · simp [Value.ownBlock] at e1
    · simp only [Value.ownBlock, Option.some.injEq] at e1
      subst e1
      rw [hg] at hg'
      simp only [Option.some.injEq, Obj.cells.injEq] at hg'
      exact hne hg'.2.1.symm

theorem slice_own {w : World} {B n s : Nat} {t : TypeId} {v : Value} {us : List Value} (h : w.ownsRow B t s v n us) : ∃ a m c, v = .slice a m c := by
  rcases h.2 with ⟨rfl, _⟩ | ⟨g, cap, cur, rfl, _⟩
  · exact ⟨_, _, _, rfl⟩
  · exact ⟨_, _, _, rfl⟩
theorem one_own {w : World} {B n s : Nat} {t : TypeId} {v : Value} {us : List Value} (h : w.ownsRow B t s v n us) : v.oneCell' = true := by
  rcases h.2 with ⟨rfl, _⟩ | ⟨g, cap, cur, rfl, _⟩ <;> rfl
theorem fcs_one {w : World} {B : Nat} {ps : List (Dq.Fl × Value)} (h : ∀ p ∈ ps, w.ownsRow B 5 1 p.2 p.1.b.length (bc p.1.b)) : ∀ u ∈ fcs ps, u.oneCell' = true := by
  intro u hu
  unfold fcs at hu
  obtain ⟨p, hp, hu⟩ := List.mem_flatMap.1 hu
  simp [fc] at hu
  rcases hu with rfl | rfl | rfl
  · rfl
  · exact one_own (h p hp)
  · rfl

/-- A file's cells in its row. -/
theorem Fo.cell {w : World} {B : Nat} {v : Value} {ps : List (Dq.Fl × Value)} (h : Fo w B v ps) {i : Nat} {p : Dq.Fl × Value} (hp : ps[i]? = some p) : ∃ g cap, v = .slice (some ⟨g, 0, none⟩) ps.length cap ∧ ps.length ≤ cap ∧ B ≤ g ∧ g < w.heap.size ∧ w.cell? ⟨g, i * 3, none⟩ = some (.string p.1.name) ∧ w.cell? ⟨g, i * 3 + 1, none⟩ = some p.2 ∧ w.cell? ⟨g, i * 3 + 2, none⟩ = some (.int .i64 (p.1.safe : Int)) ∧ ∀ j : Nat, w.frozen? ⟨g, j, none⟩ = false := by
  have hi := (List.getElem?_eq_some_iff.1 hp).1
  have hown := h.own
  rcases h.own.2 with ⟨rfl, h0⟩ | ⟨g, cap, cur, rfl, hg1, hg2, hn, hrest⟩
  · omega
  · have hc : ∀ r : Nat, r < 3 → w.cell? ⟨g, i * 3 + r, none⟩ = (fc p)[r]? := fun r hr => by
      rw [hown.cellAt (i * 3 + r) (by omega), fcs_get]
      have e1 : (i * 3 + r) / 3 = i := by omega
      have e2 : (i * 3 + r) % 3 = r := by omega
      rw [e1, e2, hp]
      rfl
    refine ⟨g, cap, rfl, hn, (hown.lt g rfl).1, (hown.lt g rfl).2, hc 0 (by decide), hc 1 (by decide), hc 2 (by decide), fun j => ?_⟩
    simp only [World.frozen?, hg2]
    rfl

theorem Fo.kept {w w' : World} {B k : Nat} {v : Value} {ps : List (Dq.Fl × Value)} (h : Fo w B v ps) (hg : w.grownBy w' (some k)) (hk : k < B ∨ w.heap.size ≤ k) : Fo w' B v ps := by
  refine ⟨h.own.kept hg (Or.inr fun e => ?_), fun p hp => (h.bytes p hp).kept hg (Or.inr fun e => ?_)⟩
  · have := h.own.lt k e
    omega
  · have := (h.bytes p hp).lt k e
    omega
theorem Fo.below {w w' : World} {B : Nat} {v : Value} {ps : List (Dq.Fl × Value)} (h : Fo w B v ps) (hb : Below w.heap.size w w') : Fo w' B v ps :=
  h.kept (grownBy_below (row := some w.heap.size) hb) (Or.inr (Nat.le_refl _))

/-- The reference's disk at q. -/
structure RefC (w : World) (q : Nat) (st : Dq.St) (G : Nat → Prop) (v : Value) (ps : List (Dq.Fl × Value)) : Prop where
  c0 : w.cell? ⟨q, 0, none⟩ = some (.int .i64 (st.room : Int))
  c1 : w.cell? ⟨q, 1, none⟩ = some v
  c2 : w.cell? ⟨q, 2, none⟩ = some (.bool st.off)
  c3 : w.cell? ⟨q, 3, none⟩ = some (.int .i64 (st.lives : Int))
  free : ∀ i : Nat, w.frozen? ⟨q, i, none⟩ = false
  fo : Fo w (q + 1) v ps
  fs : ps.map (·.1) = st.fs
  gq : G q
  gl : ∀ k, v.ownBlock = some k → G k
  gb : ∀ p ∈ ps, ∀ k, p.2.ownBlock = some k → G k
  glt : ∀ k, G k → k < w.heap.size

def RefD : Rep := fun w q st G => ∃ v ps, RefC w q st G v ps

theorem RefC.keep {w w' : World} {q : Nat} {st : Dq.St} {G : Nat → Prop} {v : Value} {ps : List (Dq.Fl × Value)} (h : RefC w q st G v ps) (hs : w.heap.size ≤ w'.heap.size) (hk : ∀ k, G k → w'.heap[k]? = w.heap[k]?) : RefC w' q st G v ps := by
  have hq := hk q h.gq
  have own : ∀ {t : TypeId} {s n : Nat} {u : Value} {us : List Value}, w.ownsRow (q + 1) t s u n us → (∀ k, u.ownBlock = some k → G k) → w'.ownsRow (q + 1) t s u n us := fun {t s n u us} ho hu => by
    refine ⟨ho.1, ?_⟩
    rcases ho.2 with h1 | ⟨g, cap, cur, e, h1, h2, h3⟩
    · exact Or.inl h1
    · exact Or.inr ⟨g, cap, cur, e, h1, by rw [hk g (hu g (by rw [e]; rfl))]; exact h2, h3⟩
  exact ⟨(World.cell?_of_block hq).trans h.c0, (World.cell?_of_block hq).trans h.c1, (World.cell?_of_block hq).trans h.c2, (World.cell?_of_block hq).trans h.c3, fun i => (World.frozen?_of_block hq).trans (h.free i), ⟨own h.fo.own h.gl, fun p hp => own (h.fo.bytes p hp) (h.gb p hp)⟩, h.fs, h.gq, h.gl, h.gb, fun k hk2 => Nat.lt_of_lt_of_le (h.glt k hk2) hs⟩

theorem RefC.below {w w' : World} {q : Nat} {st : Dq.St} {G : Nat → Prop} {v : Value} {ps : List (Dq.Fl × Value)} (h : RefC w q st G v ps) (hb : Below w.heap.size w w') : RefC w' q st G v ps := h.keep hb.size fun k hk => hb.block k (h.glt k hk)

theorem RefC.drew {w : World} {q : Nat} {st : Dq.St} {G : Nat → Prop} {v : Value} {ps : List (Dq.Fl × Value)} (h : RefC w q st G v ps) : RefC w.drew q st G v ps := h.below (Below.refl _ _).drew

theorem RefC.lt {w : World} {q : Nat} {st : Dq.St} {G : Nat → Prop} {v : Value} {ps : List (Dq.Fl × Value)} (h : RefC w q st G v ps) : q < w.heap.size := h.glt q h.gq

theorem RefC.len {w : World} {q : Nat} {st : Dq.St} {G : Nat → Prop} {v : Value} {ps : List (Dq.Fl × Value)} (h : RefC w q st G v ps) : ps.length = st.fs.length := by rw [← h.fs, List.length_map]

/-- The list's value, and how long it is. -/
theorem RefC.shape {w : World} {q : Nat} {st : Dq.St} {G : Nat → Prop} {v : Value} {ps : List (Dq.Fl × Value)} (h : RefC w q st G v ps) : ∃ a c, v = .slice a ps.length c ∧ ps.length ≤ c := by
  rcases h.fo.own.2 with ⟨rfl, h0⟩ | ⟨g, cap, cur, rfl, _, _, hn, _⟩
  · exact ⟨none, 0, by rw [h0], by rw [h0]; exact Nat.le_refl _⟩
  · exact ⟨_, cap, rfl, hn⟩

/-- The blocks that there are behind a call. -/
def Gx (w w' : World) (G : Nat → Prop) : Nat → Prop := fun k => G k ∨ (w.heap.size ≤ k ∧ k < w'.heap.size)

/-- Texts handed to 'append'. -/
def Fsrc (w : World) (u : Value) (qs : List (Dq.Fl × Value)) : Prop := (u = .slice none 0 0 ∧ qs = []) ∨ ∃ g o c, u = .slice (some ⟨g, o, none⟩) qs.length c ∧ ∀ (j : Nat) x, (fcs qs)[j]? = some x → w.cell? ⟨g, o + j, none⟩ = some x

/-- 'append(l, x...)' of files, within a drawn region. -/
theorem wp_fs {o : Oper} {a : Act} {K : Act → World → Prop} {Q : Exit → Act → World → Prop} (s x : Operand)
    (ho : o.op = .call { callee := .builtin .append, args := #[s, x], argTypes := #[40, 40] })
    (B : Nat) (v u : Value) (ps qs : List (Dq.Fl × Value)) (w : World) (hs : a.eval s = v) (hx : a.eval x = u) (hown : w.ownsRow B 47 3 v ps.length (fcs ps)) (hB : B ≤ w.heap.size) (hsrc : Fsrc w u qs) (hone : ∀ y ∈ fcs qs, y.oneCell' = true) (hN : ps.length + qs.length ≤ 3000)
    (h : ∀ v' w', w'.ownsRow B 47 3 v' (ps ++ qs).length (fcs (ps ++ qs)) → w.grownBy w' v.ownBlock → K (a.put o.dst v') w') : o.wp Try.prog a w K Q := by
  obtain ⟨i0, hi, hz0, hz1, hz2⟩ := info_parts infoFile
  rcases hsrc with ⟨rfl, rfl⟩ | ⟨g, ob, c, rfl, hcs⟩
  · have hrun := run_append_owned_none (P := Try.prog) (w := w) B 40 o.type 47 i0 3 Try.underlying40 hi v ps.length (fcs ps) hown
    have hx2 : a.eval x = .slice none 0 0 := hx
    unfold Oper.wp
    simp [execOp, ho, resolve, invoke, builtin, hs, hx2, hrun, Result.andThen]
    exact h v w (by simpa using hown) ⟨rfl, rfl, rfl, Nat.le_refl _, fun _ _ _ => rfl⟩
  · refine wp_append_own w s x 40 ho B 47 i0 (.agg #[.string ⟨#[]⟩, .slice none 0 0, .int .i64 0]) 3 48 Try.underlying40 hi hz0 hz1 hz2 rfl (by decide) v ps.length (fcs ps) hs hown ⟨g, ob, none⟩ qs.length c (fcs qs) hx (fcs_len qs) ?_ hone (by unfold maxLen; omega) (by omega) hB ?_
    · intro j y hy
      rw [Addr.add_lit]
      exact hcs j y hy
    · intro v' w' ho' hg _
      exact h v' w' (by rw [List.length_append, fcs_app]; exact ho') hg

/-- 'append(b, x...)' of bytes, within a drawn region. -/
theorem wp_bs {o : Oper} {a : Act} {K : Act → World → Prop} {Q : Exit → Act → World → Prop} (s x : Operand)
    (ho : o.op = .call { callee := .builtin .append, args := #[s, x], argTypes := #[28, 28] })
    (B : Nat) (v u : Value) (xs ys : List UInt8) (w : World) (hs : a.eval s = v) (hx : a.eval x = u) (hown : w.ownsRow B 5 1 v xs.length (bc xs)) (hB : B ≤ w.heap.size) (hb : Bs w u ys) (hN : xs.length + ys.length ≤ 100000000)
    (h : ∀ v' w', w'.ownsRow B 5 1 v' (xs ++ ys).length (bc (xs ++ ys)) → w.grownBy w' v.ownBlock → K (a.put o.dst v') w') : o.wp Try.prog a w K Q := by
  obtain ⟨i0, hi, hz0, hz1, hz2⟩ := info_parts infoByte
  obtain ⟨ao, m, c, rfl, hm, hsl⟩ := hb
  cases ao with
  | none =>
    obtain ⟨h0, rfl⟩ := hsl.nil rfl
    obtain rfl : ys = [] := List.length_eq_zero_iff.1 h0
    obtain rfl : m = 0 := hm
    have hrun := run_append_owned_none (P := Try.prog) (w := w) B 28 o.type 5 i0 1 Try.underlying28 hi v xs.length (bc xs) hown
    have hx2 : a.eval x = .slice none 0 0 := hx
    unfold Oper.wp
    simp [execOp, ho, resolve, invoke, builtin, hs, hx2, hrun, Result.andThen]
    exact h v w (by simpa using hown) ⟨rfl, rfl, rfl, Nat.le_refl _, fun _ _ _ => rfl⟩
  | some ad =>
    subst hm
    refine wp_append_own w s x 28 ho B 5 i0 (.int .u8 0) 1 1 Try.underlying28 hi hz0 hz1 hz2 rfl (by decide) v xs.length (bc xs) hs hown ad ys.length c (bc ys) hx (by rw [bc_len]; omega) (hsl.cells ad rfl) (bc_one _) (by unfold maxLen; omega) (by omega) hB ?_
    intro v' w' ho' hg _
    exact h v' w' (by rw [List.length_append, bc_app]; exact ho') hg
end Go.Proofs.Ytphmmdjefpfehaa
