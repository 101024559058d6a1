import Derived.Test.YtboejbjobjhajaaGreatDoorPm2
import Derived.Test.YtboejbjobjhajaaGreatDoorHbx
import Derived.Maps.AppendAt
namespace Go.Proofs.YtboejbjobjhajaaGreatDoor
open Go.RowKit
structure SpecD12 (LT : Rep11) : Prop where
  doo : ∀ (q : Nat) (t : Tq.Tr) (F : Nat → Prop) (o : O) (s z : Int) (w : World), LT w q t F → Fine11 t → (∀ k, F k → 6 ≤ k) → Pa.Std w → OFit o →
    Calls Tryz.prog 133 #[dptr q, ov o, .int .i64 s, .int .i64 z] w fun e w' => ∃ F' v, e = .returned (rv (Tq.doo t o s z).1 v) ∧ Sq w' v (Tq.doo t o s z).1.names ∧ ((Tq.doo t o s z).1.names ≠ [] → Off11 F' v) ∧ (∀ k, v.ownBlock = some k → w.heap.size ≤ k) ∧ LT w' q (Tq.doo t o s z).2 F' ∧ Moved w w' F F'
theorem sq_lt12 {w : World} {v : Value} {l : List ByteArray} (h : Sq w v l) (hl : l ≠ []) {k : Nat} (hk : v.ownBlock = some k) : k < w.heap.size := by
  obtain ⟨av, j, c, rfl, _, _, _, hs⟩ := h
  cases l with
  | nil => exact absurd rfl hl
  | cons s l =>
    obtain ⟨g, o, e, hc⟩ := hs 0 s rfl
    subst e
    simp only [Value.ownBlock, Option.some.injEq] at hk
    subst hk
    exact World.block_lt_of_cell? w _ hc
theorem sq_keep12 {w w' : World} {v : Value} {l : List ByteArray} (h : Sq w v l) (hk : l ≠ [] → ∀ k, v.ownBlock = some k → k < w.heap.size → w'.heap[k]? = w.heap[k]?) : Sq w' v l := by
  obtain ⟨av, k, c, rfl, hj, hkc, hn, hs⟩ := h
  refine ⟨av, k, c, rfl, hj, hkc, hn, fun j s hj => ?_⟩
  obtain ⟨g, o, e, hc⟩ := hs j s hj
  exact ⟨g, o, e, (World.cell?_of_block (hk (fun e2 => by rw [e2] at hj; simp at hj) g (by rw [e]; rfl) (World.block_lt_of_cell? w _ hc))).trans hc⟩
structure Om12 (w : World) (F : Nat → Prop) (v : Value) (os : List O) : Prop where
  ol : Ol w v os
  off : os ≠ [] → Off11 F v
section
variable {w w' : World} {F F' : Nat → Prop} {v : Value} {os : List O}
theorem Om12.lt (h : Om12 w F v os) (hne : os ≠ []) {q : Nat} (hq : v.ownBlock = some q) : q < w.heap.size := by
  obtain ⟨⟨av, k, c, rfl, hk, hc, hn, hs⟩, ho⟩ := h
  cases os with
  | nil => exact absurd rfl hne
  | cons o os =>
    obtain ⟨g, b, ha, hcell⟩ := hs 0 o rfl
    subst ha
    simp only [Value.ownBlock, Option.some.injEq] at hq
    subst hq
    exact World.block_lt_of_cell? w _ (hcell 0 _ rfl)
theorem Om12.keep (h : Om12 w F v os) (hk : ∀ k, v.ownBlock = some k → k < w.heap.size → w'.heap[k]? = w.heap[k]?) (hF : os ≠ [] → Off11 F' v) : Om12 w' F' v os := by
  obtain ⟨⟨av, k, c, rfl, hj, hc, hn, hs⟩, ho⟩ := h
  refine ⟨⟨av, k, c, rfl, hj, hc, hn, fun j o hj => ?_⟩, hF⟩
  obtain ⟨g, b, ha, hcell⟩ := hs j o hj
  have hb := hk g (by rw [ha]; rfl) (World.block_lt_of_cell? w _ (hcell 0 _ rfl))
  exact ⟨g, b, ha, fun i u hu => (World.cell?_of_block hb).trans (hcell i u hu)⟩
theorem Om12.moved (h : Om12 w F v os) (hm : Moved w w' F F') : Om12 w' F' v os := by
  by_cases hne : os = []
  · subst hne
    obtain ⟨⟨av, k, c, rfl, hj, hc, hn, hs⟩, ho⟩ := h
    exact ⟨⟨av, k, c, rfl, hj, hc, hn, fun j o hj => by simp at hj⟩, fun e => absurd rfl e⟩
  · refine h.keep (fun k hk hl => hm.block k hl (h.off hne k hk)) (fun _ k hk e => ?_)
    rcases hm.sub k e with e | e
    · exact h.off hne k hk e
    · have := h.lt hne hk
      omega
theorem Om12.later (h : Om12 w F v os) (hb : Below w.heap.size w w') : Om12 w' F v os := h.moved (Moved.of_below F hb)
end
def Rn12 (B : Nat) (F : Nat → Prop) (w : World) (u : Value) (xs : List X) : Prop :=
  ∃ av k c, u = .slice av k c ∧ k = xs.length ∧ k ≤ c ∧ (av = none → c = 0) ∧ ∀ (j : Nat) x, xs[j]? = some x → ∃ g b nv, av = some ⟨g, b, none⟩ ∧ (B ≤ g ∧ ¬ F g) ∧ Sq w nv x.names ∧ (x.names ≠ [] → ∀ k, nv.ownBlock = some k → B ≤ k ∧ ¬ F k) ∧ ∀ (i : Nat) u, (xc x nv)[i]? = some u → w.cell? ⟨g, b + (j * 11 + i), none⟩ = some u
section
variable {w w' : World} {F F' : Nat → Prop} {u : Value} {xs : List X} {B : Nat}
theorem Rn12.keep (h : Rn12 B F w u xs) (hk : ∀ k, B ≤ k → ¬ F k → k < w.heap.size → w'.heap[k]? = w.heap[k]? ∧ ¬ F' k) : Rn12 B F' w' u xs := by
  obtain ⟨av, k, c, hv, hj, hc, hn, hs⟩ := h
  refine ⟨av, k, c, hv, hj, hc, hn, fun j x hx => ?_⟩
  obtain ⟨g, b, nv, h1, h2, h3, h4, h5⟩ := hs j x hx
  have hg := hk g h2.1 h2.2 (World.block_lt_of_cell? w _ (h5 0 _ rfl))
  refine ⟨g, b, nv, h1, ⟨h2.1, hg.2⟩, sq_keep12 h3 (fun hne k e hl => (hk k (h4 hne k e).1 (h4 hne k e).2 hl).1), fun hne k e => ⟨(h4 hne k e).1, (hk k (h4 hne k e).1 (h4 hne k e).2 (sq_lt12 h3 hne e)).2⟩, fun i u hu => (World.cell?_of_block hg.1).trans (h5 i u hu)⟩
theorem Rn12.moved (h : Rn12 B F w u xs) (hm : Moved w w' F F') : Rn12 B F' w' u xs := h.keep fun k _ h2 hl => ⟨hm.block k hl h2, fun e => by
  rcases hm.sub k e with e | e
  · exact h2 e
  · omega⟩
theorem Rn12.later (h : Rn12 B F w u xs) (hb : Below w.heap.size w w') : Rn12 B F w' u xs := h.moved (Moved.of_below F hb)
theorem Rn12.low {B' : Nat} (h : Rn12 B F w u xs) (hB : B' ≤ B) : Rn12 B' F w u xs := by
  obtain ⟨av, k, c, hv, hj, hc, hn, hs⟩ := h
  refine ⟨av, k, c, hv, hj, hc, hn, fun j x hx => ?_⟩
  obtain ⟨g, b, nv, h1, h2, h3, h4, h5⟩ := hs j x hx
  exact ⟨g, b, nv, h1, ⟨Nat.le_trans hB h2.1, h2.2⟩, h3, fun hne k e => ⟨Nat.le_trans hB (h4 hne k e).1, (h4 hne k e).2⟩, h5⟩
theorem Rn12.bare (h : Rl w u xs) (hn : ∀ k, u.ownBlock = some k → B ≤ k) (hx : ∀ x ∈ xs, x.names = []) (hF : ∀ k, F k → k < B) : Rn12 B F w u xs := by
  obtain ⟨av, k, c, rfl, hj, hc, hz, hs⟩ := h
  refine ⟨av, k, c, rfl, hj, hc, hz, fun j x hjx => ?_⟩
  obtain ⟨g, b, nv, h1, h2, h3⟩ := hs j x hjx
  subst h1
  have hg := hn g rfl
  exact ⟨g, b, nv, rfl, ⟨hg, fun e => by have := hF g e; omega⟩, h2, fun hne => absurd (hx x (List.mem_of_getElem? hjx)) hne, h3⟩
end
theorem fail_bare (num e at_ n : Int) : ∀ x ∈ (Rq.fail num e at_ n).xs, x.names = [] := by
  intro x hx
  unfold Rq.fail at hx
  simp only [] at hx
  split at hx
  · cases hx
  · unfold Rq.fails at hx
    obtain ⟨i, _, rfl⟩ := List.mem_map.1 hx
    rfl
theorem wp_res12 {o : Oper} {a : Act} {K : Act → World → Prop} {Q : Exit → Act → World → Prop} (s x : Operand)
    (ho : o.op = .call { callee := .builtin .append, args := #[s, x], argTypes := #[33, 33] })
    (B : Nat) (v : Value) (ps : List (X × Value)) (p : X × Value) (sb : Nat) (w : World) (hs : a.eval s = v) (hx : a.eval x = .slice (some ⟨sb, 0, none⟩) 1 1) (hown : w.ownsRow B 75 11 v ps.length (xcs ps)) (hB : B ≤ w.heap.size) (hc : Cb w sb (xc p.1 p.2) 75) (hN : ps.length ≤ 3000) (h1 : p.2.oneCell' = true)
    (h : ∀ v' w', w'.ownsRow B 75 11 v' (ps ++ [p]).length (xcs (ps ++ [p])) → w.grownBy w' v.ownBlock → (v'.ownBlock = v.ownBlock ∨ v'.ownBlock = some w.heap.size) → K (a.put o.dst v') w') : o.wp Tryz.prog a w K Q := by
  obtain ⟨i0, hi, hz0, hz1, hz2⟩ := info_parts infoResult
  have hcell : ∀ j y, (xc p.1 p.2)[j]? = some y → w.cell? ((⟨sb, 0, none⟩ : Addr).add j) = some y := fun j y hy => by
    rw [Addr.add_lit, Nat.zero_add, hc.cell j]
    exact hy
  obtain ⟨v', w', hr, h2, h3, h4, h5⟩ := run_append_own_at (P := Tryz.prog) w B 33 o.type 75 i0 _ 11 120 Tryz.underlying33 hi hz0 hz1 hz2 rfl (by decide) v ps.length (xcs ps) hown ⟨sb, 0, none⟩ 1 1 (xc p.1 p.2) rfl hcell (xc_one h1) (by unfold maxLen; omega) (by omega) hB
  unfold Oper.wp execOp
  simp only [ho, resolve, invoke, builtin, Sem.run_bind, Sem.run_pure, Result.andThen_ok, List.map_toArray, List.map_cons, List.map_nil, hs, hx, hr]
  refine h v' w' ?_ h3 h5
  unfold xcs at h2 ⊢
  rw [List.flatMap_append, List.length_append]
  simpa using h2
theorem wpList_res12 {ops : Array Oper} {rest : List Oper} {o : Oper} {a : Act} {Q : Exit → Act → World → Prop} (hgd : o.guard = none) (s x : Operand)
    (ho : o.op = .call { callee := .builtin .append, args := #[s, x], argTypes := #[33, 33] })
    (B : Nat) (v : Value) (ps : List (X × Value)) (p : X × Value) (sb : Nat) (w : World) (hs : a.eval s = v) (hx : a.eval x = .slice (some ⟨sb, 0, none⟩) 1 1) (hown : w.ownsRow B 75 11 v ps.length (xcs ps)) (hB : B ≤ w.heap.size) (hc : Cb w sb (xc p.1 p.2) 75) (hN : ps.length ≤ 3000) (h1 : p.2.oneCell' = true)
    (h : ∀ v' w', w'.ownsRow B 75 11 v' (ps ++ [p]).length (xcs (ps ++ [p])) → w.grownBy w' v.ownBlock → (v'.ownBlock = v.ownBlock ∨ v'.ownBlock = some w.heap.size) → wpList Tryz.prog ops Q rest (a.put o.dst v') w') : wpList Tryz.prog ops Q (o :: rest) a w :=
  wpList_plain hgd fun _ hK => wp_res12 s x ho B v ps p sb w hs hx hown hB hc hN h1 fun v' w' h2 h3 h4 => hK _ _ (h v' w' h2 h3 h4)
structure It12 (LT : Rep11) (W w : World) (q : Nat) (t : Tq.Tr) (F0 F : Nat → Prop) (a b : Nat) (z : Int) (v : Value) (ps : List (X × Value)) : Prop where
  ld : LT w q t F
  mv : Moved W w F0 F
  ans : Kept11 w F a [.int .i64 0, .int .i64 0, .int .i64 0, .int .i64 0, .slice none 0 0] 37
  told : Kept11 w F b [.int .i64 0, .int .i64 z, .int .i64 0, .int .i64 (-1), v] 37
  ne : a ≠ b
  ha : W.heap.size ≤ a
  hb : W.heap.size ≤ b
  row : w.ownsRow W.heap.size 75 11 v ps.length (xcs ps)
  roff : ∀ k, v.ownBlock = some k → ¬ F k
  names : ∀ p ∈ ps, (∃ a L c, p.2 = .slice a L c) ∧ Sq w p.2 p.1.names ∧ (p.1.names ≠ [] → ∀ k, p.2.ownBlock = some k → W.heap.size ≤ k ∧ ¬ F k ∧ k ≠ a ∧ k ≠ b ∧ v.ownBlock ≠ some k)
section
variable {LT : Rep11} {W w w' w4 : World} {q a b : Nat} {t t' : Tq.Tr} {F0 F F' : Nat → Prop} {z : Int} {v v' : Value} {ps : List (X × Value)}
theorem It12.moved (h : It12 LT W w q t F0 F a b z v ps) (hl : LT w' q t' F') (hm : Moved w w' F F') : It12 LT W w' q t' F0 F' a b z v ps := by
  have hsub : ∀ k, k < w.heap.size → ¬ F k → ¬ F' k := fun k hk hF e => by
    rcases hm.sub k e with e | e
    · exact hF e
    · omega
  refine ⟨hl, h.mv.trans hm, h.ans.moved hm, h.told.moved hm, h.ne, h.ha, h.hb, row_stays h.row (fun k e => hm.block k (h.row.lt k e).2 (h.roff k e)), fun k e => hsub k (h.row.lt k e).2 (h.roff k e), fun p hp => ?_⟩
  obtain ⟨h1, h2, h3⟩ := h.names p hp
  refine ⟨h1, sq_keep12 h2 (fun hne k e hl => hm.block k hl (h3 hne k e).2.1), fun hne k e => ?_⟩
  obtain ⟨g1, g2, g3⟩ := h3 hne k e
  exact ⟨g1, hsub k (sq_lt12 h2 hne e) g2, g3⟩
theorem It12.later (S : Specs11 LT) (h : It12 LT W w q t F0 F a b z v ps) (hb : Below w.heap.size w w') : It12 LT W w' q t F0 F a b z v ps :=
  h.moved (S.keep h.ld fun k hk => hb.block k (S.lt h.ld hk)) (Moved.of_below F hb)
theorem It12.push (S : Specs11 LT) (h : It12 LT W w q t F0 F a b z v ps) {p : X × Value} (hg : w.grownBy w4 v.ownBlock) (hr : w4.ownsRow W.heap.size 75 11 v' (ps ++ [p]).length (xcs (ps ++ [p]))) (hv : v'.ownBlock = v.ownBlock ∨ v'.ownBlock = some w.heap.size)
    (hp : (∃ a L c, p.2 = .slice a L c) ∧ Sq w p.2 p.1.names ∧ (p.1.names ≠ [] → ∀ k, p.2.ownBlock = some k → W.heap.size ≤ k ∧ ¬ F k ∧ k ≠ a ∧ k ≠ b ∧ v.ownBlock ≠ some k)) :
    It12 LT W (w4.setCell ⟨b, 4, none⟩ v') q t F0 F a b z v' (ps ++ [p]) := by
  have hg2 := grownBy_setCell w4 ⟨b, 4, none⟩ v'
  have hbv := h.told.cb.apart h.row (by decide)
  have hav := h.ans.cb.apart h.row (by decide)
  have hhb := h.hb
  have keep : ∀ k, k < w.heap.size → v.ownBlock ≠ some k → k ≠ b → (w4.setCell ⟨b, 4, none⟩ v').heap[k]? = w.heap[k]? := fun k hk h1 h2 =>
    (hg2.block k (Nat.lt_of_lt_of_le hk hg.size) (fun e => h2 (by simpa using e))).trans (hg.block k hk (fun e => h1 e.symm))
  have hb4 : Cb w4 b [.int .i64 0, .int .i64 z, .int .i64 0, .int .i64 (-1), v] 37 := h.told.cb.keep (hg.block b h.told.cb.lt (fun e => hbv e.symm))
  have hws := h.mv.size
  refine ⟨S.keep h.ld (fun k hk => keep k (S.lt h.ld hk) (fun e => h.roff k e hk) (fun e => h.told.off (e ▸ hk))), ⟨hg2.os.trans (hg.os.trans h.mv.os), hg2.tape.trans (hg.tape.trans h.mv.tape), hg2.output.trans (hg.output.trans h.mv.output), Nat.le_trans hws (Nat.le_trans hg.size hg2.size), fun k hk hF => (keep k (by omega) (fun e => by have := (h.row.lt k e).1; omega) (by omega)).trans (h.mv.block k hk hF), h.mv.sub⟩, ⟨h.ans.cb.keep (keep a h.ans.cb.lt hav h.ne), h.ans.off⟩, ⟨hb4.set 4 v', h.told.off⟩, h.ne, h.ha, h.hb, row_stays hr (fun k e => hg2.block k (hr.lt k e).2 (fun e2 => hb4.apart hr (by decide) (by rw [e, e2]))), fun k e hF => ?_, fun y hy => ?_⟩
  · rcases hv with hv | hv
    · exact h.roff k (hv ▸ e) hF
    · rw [hv] at e
      have := S.lt h.ld hF
      simp only [Option.some.injEq] at e
      omega
  · have key : ∀ p : X × Value, ((∃ a L c, p.2 = .slice a L c) ∧ Sq w p.2 p.1.names ∧ (p.1.names ≠ [] → ∀ k, p.2.ownBlock = some k → W.heap.size ≤ k ∧ ¬ F k ∧ k ≠ a ∧ k ≠ b ∧ v.ownBlock ≠ some k)) → (∃ a L c, p.2 = .slice a L c) ∧ Sq (w4.setCell ⟨b, 4, none⟩ v') p.2 p.1.names ∧ (p.1.names ≠ [] → ∀ k, p.2.ownBlock = some k → W.heap.size ≤ k ∧ ¬ F k ∧ k ≠ a ∧ k ≠ b ∧ v'.ownBlock ≠ some k) := by
      rintro p ⟨h1, h2, h3⟩
      refine ⟨h1, sq_keep12 h2 (fun hne k e hl => keep k hl (h3 hne k e).2.2.2.2 (h3 hne k e).2.2.2.1), fun hne k e => ?_⟩
      obtain ⟨g1, g2, g3, g4, g5⟩ := h3 hne k e
      refine ⟨g1, g2, g3, g4, fun e2 => ?_⟩
      rcases hv with hv | hv
      · exact g5 (hv ▸ e2)
      · rw [hv] at e2
        have := sq_lt12 h2 hne e
        simp only [Option.some.injEq] at e2
        omega
    rcases List.mem_append.1 hy with hy | hy
    · exact key y (h.names y hy)
    · obtain rfl := List.mem_singleton.1 hy
      exact key y hp
theorem It12.fin (S : Specs11 LT) (h : It12 LT W w q t F0 F a b z v ps) (ds : Array Value) :
    Rn12 W.heap.size F (w.setRow a ds) v (ps.map (·.1)) ∧ LT (w.setRow a ds) q t F ∧ Moved W (w.setRow a ds) F0 F := by
  have hav := h.ans.cb.apart h.row (by decide)
  have hha := h.ha
  obtain ⟨ra, rc, rfl, hrc, hrg⟩ := row_form h.row
  refine ⟨⟨ra, ps.length, rc, rfl, by rw [List.length_map], hrc, fun e => ?_, fun j x hx => ?_⟩, S.keep h.ld (fun k hk => setRow_other w a k ds (fun e => h.ans.off (e ▸ hk))), ⟨h.mv.os, h.mv.tape, h.mv.output, by rw [setRow_size]; exact h.mv.size, fun k hk hF => (setRow_other w a k ds (by omega)).trans (h.mv.block k hk hF), h.mv.sub⟩⟩
  · rcases h.row.2 with ⟨e2, _⟩ | ⟨g, cap, cur, e2, _⟩
    · exact (Value.slice.inj e2).2.2
    · rw [(Value.slice.inj e2).1] at e
      cases e
  · have hj := (List.getElem?_eq_some_iff.1 hx).1
    rw [List.length_map] at hj
    have hp : ps[j]? = some ps[j] := List.getElem?_eq_getElem hj
    rw [List.getElem?_map, hp] at hx
    have hx : ps[j].1 = x := Option.some.inj hx
    subst hx
    obtain ⟨g, rfl⟩ := hrg (by omega)
    obtain ⟨_, h2, h3⟩ := h.names _ (List.getElem_mem hj)
    have hga : g ≠ a := fun e => hav (by rw [e]; rfl)
    refine ⟨g, 0, ps[j].2, rfl, ⟨(h.row.lt g rfl).1, h.roff g rfl⟩, sq_keep12 h2 (fun hne k e _ => setRow_other w a k ds (h3 hne k e).2.2.1), fun hne k e => ⟨(h3 hne k e).1, (h3 hne k e).2.1⟩, fun i u hu => ?_⟩
    have hi : i < 11 := by
      have := (List.getElem?_eq_some_iff.1 hu).1
      rw [xc_len] at this
      exact this
    rw [World.cell?_of_block (setRow_other w a g ds hga), Nat.zero_add, h.row.cellAt (j * 11 + i) (by omega), xcs_get]
    have e1 : (j * 11 + i) / 11 = j := by omega
    have e2 : (j * 11 + i) % 11 = i := by omega
    rw [e1, e2, hp]
    exact hu
end
end Go.Proofs.YtboejbjobjhajaaGreatDoor
