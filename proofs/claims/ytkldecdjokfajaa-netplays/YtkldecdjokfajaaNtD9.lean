/- What twin answers: a message that lies in blocks of its own. -/
import Derived.Test.YtkldecdjokfajaaNtC9
import Derived.Deep.Onto
namespace Go.Proofs.Ytkldecdjokfajaa
open Go.RowKit

theorem Nv.lt9 {w : World} {v : Value} {zs : List Int} {K : Nat → Prop} (h : Nv w v zs K) : Nv w v zs (fun k => K k ∧ k < w.heap.size) := by
  obtain ⟨av, k, c, hv, hl, hc⟩ := h
  refine ⟨av, k, c, hv, hl, fun j z hz => ?_⟩
  obtain ⟨g, o, ha, hcell, hg⟩ := hc j z hz
  exact ⟨g, o, ha, hcell, hg, World.block_lt_of_cell? w _ hcell⟩
theorem Bv.lt9 {w : World} {v : Value} {ls : List (List UInt8)} {K : Nat → Prop} (h : Bv w v ls K) : Bv w v ls (fun k => K k ∧ k < w.heap.size) := by
  obtain ⟨av, k, c, hv, hl, hc⟩ := h
  refine ⟨av, k, c, hv, hl, fun j xs hx => ?_⟩
  obtain ⟨g, o, u, ha, hcell, hb, hg, hu⟩ := hc j xs hx
  refine ⟨g, o, u, ha, hcell, hb, ⟨hg, World.block_lt_of_cell? w _ hcell⟩, fun h0 k2 e => ⟨hu h0 k2 e, ?_⟩⟩
  obtain ⟨g2, o2, n2, c2, e2, _, _, h4⟩ := hb.plain h0
  rw [e2] at e
  simp only [Value.ownBlock, Option.some.injEq] at e
  subst e
  obtain ⟨x, hx2⟩ : ∃ x, xs[0]? = some x := ⟨_, List.getElem?_eq_getElem h0⟩
  exact World.block_lt_of_cell? w _ (h4 0 x hx2)
/-- Rows lie elsewhere than a block of another kind. -/
theorem Nk.row_ne {w : World} {p B n s : Nat} {cs : List Value} {t t' : TypeId} (hp : Nk w p cs t) {u : Value} {xs : List Value} (hu : w.ownsRow B t' s u n xs) (ht : t' ≠ t) : ∀ k, u.ownBlock = some k → k ≠ p := fun k e e2 => by
  obtain ⟨cur, hc⟩ := row_of9 hu e
  unfold Nk at hp
  rw [e2, hp] at hc
  simp only [Option.some.injEq, Obj.cells.injEq] at hc
  exact ht hc.2.1.symm
/-- Five cells of a block are written. -/
abbrev set5 (w : World) (p : Nat) (c0 c1 c2 c3 c4 : Value) : World := ((((w.setCell ⟨p, 0, none⟩ c0).setCell ⟨p, 1, none⟩ c1).setCell ⟨p, 2, none⟩ c2).setCell ⟨p, 3, none⟩ c3).setCell ⟨p, 4, none⟩ c4
theorem set5_rest (w : World) (p : Nat) (c0 c1 c2 c3 c4 : Value) : (∀ k, k ≠ p → (set5 w p c0 c1 c2 c3 c4).heap[k]? = w.heap[k]?) ∧ w.heap.size ≤ (set5 w p c0 c1 c2 c3 c4).heap.size ∧ (set5 w p c0 c1 c2 c3 c4).os = w.os ∧ (set5 w p c0 c1 c2 c3 c4).tape = w.tape ∧ (set5 w p c0 c1 c2 c3 c4).output = w.output := by
  have g0 := grownBy_setCell w ⟨p, 0, none⟩ c0
  have g1 := grownBy_trans g0 (grownBy_setCell _ ⟨p, 1, none⟩ c1)
  have g2 := grownBy_trans g1 (grownBy_setCell _ ⟨p, 2, none⟩ c2)
  have g3 := grownBy_trans g2 (grownBy_setCell _ ⟨p, 3, none⟩ c3)
  have g4 := grownBy_trans g3 (grownBy_setCell _ ⟨p, 4, none⟩ c4)
  refine ⟨fun k hk => ?_, g4.size, g4.os, g4.tape, g4.output⟩
  unfold set5
  rw [RowKit.Below.heap_setCell _ _ _ _ hk, RowKit.Below.heap_setCell _ _ _ _ hk, RowKit.Below.heap_setCell _ _ _ _ hk, RowKit.Below.heap_setCell _ _ _ _ hk, RowKit.Below.heap_setCell _ _ _ _ hk]
theorem set5_blk {w : World} {p : Nat} {x0 x1 x2 x3 x4 : Value} {t : TypeId} (h : Nk w p [x0, x1, x2, x3, x4] t) (c0 c1 c2 c3 c4 : Value) : Nk (set5 w p c0 c1 c2 c3 c4) p [c0, c1, c2, c3, c4] t := by
  have h1 := ((((h.set 0 c0).set 1 c1).set 2 c2).set 3 c3).set 4 c4
  simp only [List.set_cons_zero, List.set_cons_succ] at h1
  exact h1
def zero5 : List Value := [.int .i64 0, .int .i64 0, .int .i64 0, .slice none 0 0, .slice none 0 0]
def m5 (m : Nq.Ms) (a b : Value) : List Value := [.int .i64 m.fr, .int .i64 m.to, .int .i64 m.kind, a, b]

/-- twin on its way: the first k rows are copied. -/
structure Tw (w wr : World) (p1 p2 B : Nat) (m : Nq.Ms) (v1 vB : Value) (cur : List Value) (k : Nat) : Prop where
  blk : Nk wr p1 (m5 m v1 vB) 31
  res : Nk wr p2 zero5 31
  ns : Nv wr v1 m.ns (fun j => B ≤ j ∧ vB.ownBlock ≠ some j)
  row : wr.ownsRow B 66 1 vB m.bs.length cur
  new : ∀ (j : Nat) u x, j < k → cur[j]? = some u → m.bs[j]? = some x → wr.ownsRow B 5 1 u x.length (bc x)
  old : ∀ (j : Nat) u x, k ≤ j → cur[j]? = some u → m.bs[j]? = some x → Bs w u x
  below : Below w.heap.size w wr
  hB : w.heap.size < B
  hp : w.heap.size ≤ p1 ∧ p1 < B ∧ w.heap.size ≤ p2 ∧ p2 < B ∧ p1 ≠ p2
section
variable {w wr w' : World} {p1 p2 B : Nat} {m : Nq.Ms} {v1 vB : Value} {cur : List Value} {k : Nat}
theorem Tw.clen (h : Tw w wr p1 p2 B m v1 vB cur k) : cur.length = m.bs.length := by have := h.row.1; omega
/-- One more row is copied. -/
theorem Tw.next {p3 N c : Nat} (h : Tw w wr p1 p2 B m v1 (.slice (some ⟨p3, 0, none⟩) N c) cur k) {x : List UInt8} {u : Value} (hx : m.bs[k]? = some x) (hb : Below wr.heap.size wr w') (hu : w'.ownsRow wr.heap.size 5 1 u x.length (bc x)) :
    Tw w (w'.setCell ⟨p3, k, none⟩ u) p1 p2 B m v1 (.slice (some ⟨p3, 0, none⟩) N c) (cur.set k u) (k + 1) := by
  have hB := h.row.lt p3 rfl
  have hne : ∀ j, j ≠ p3 → (w'.setCell ⟨p3, k, none⟩ u).heap[j]? = w'.heap[j]? := fun j hj => RowKit.Below.heap_setCell _ _ _ _ hj
  have hkeep : ∀ j, j < wr.heap.size → j ≠ p3 → (w'.setCell ⟨p3, k, none⟩ u).heap[j]? = wr.heap[j]? := fun j h1 h2 => (hne j h2).trans (hb.block j h1)
  have hset := grownBy_setCell w' ⟨p3, k, none⟩ u
  have hrow : w'.ownsRow B 66 1 (.slice (some ⟨p3, 0, none⟩) N c) m.bs.length cur := h.row.kept (grownBy_below (row := none) hb) (by cases (Value.slice (some ⟨p3, 0, none⟩) N c).ownBlock <;> simp)
  have e1 := h.hp
  have q1 := h.blk.lt
  have q2 := h.res.lt
  have hsz := h.below.size
  refine ⟨h.blk.keep (hkeep p1 q1 (by omega)), h.res.keep (hkeep p2 q2 (by omega)), h.ns.lt9.keep (w' := w'.setCell ⟨p3, k, none⟩ u) (fun j hj => hkeep j hj.2 (fun e => hj.1.2 (by rw [e]; rfl))) |>.mono (fun j hj => hj.1), ?_, fun j u' x' hj hu' hx' => ?_, fun j u' x' hj hu' hx' => ?_, ?_, h.hB, h.hp⟩
  · have hN : N = m.bs.length := by
      rcases h.row.2 with ⟨e, _⟩ | ⟨g, cap, cur', e, _⟩
      · cases e
      · simp only [Value.slice.injEq] at e
        exact e.2.1
    have h2 := hrow
    rw [← hN] at h2 ⊢
    exact (h2.stored k u).1
  · rcases Nat.lt_or_ge j k with hjk | hjk
    · rw [List.getElem?_set_ne (by omega)] at hu'
      have h3 := h.new j u' x' hjk hu' hx'
      exact row_same9 h3 (fun k2 e => hkeep k2 (h3.lt k2 e).2 (fun e2 => by
        rcases own_kinds h.row h3 (by decide) with e3 | e3
        · rw [e] at e3; cases e3
        · exact e3 (by rw [e, e2]; rfl)))
    · obtain rfl : j = k := by omega
      have hlt : j < cur.length := by rw [h.clen]; exact (List.getElem?_eq_some_iff.1 hx').1
      rw [List.getElem?_set_self hlt] at hu'
      rw [hx] at hx'
      simp only [Option.some.injEq] at hu' hx'
      rw [← hu', ← hx']
      exact (row_same9 hu (fun k2 e => hne k2 (fun e2 => by have := (hu.lt k2 e).1; omega))).mono (by omega)
  · rw [List.getElem?_set_ne (by omega)] at hu'
    exact h.old j u' x' (by omega) hu' hx'
  · exact (h.below.trans (hb.mono hsz)).trans ⟨hset.os, hset.tape, hset.output, hset.size, fun j hj => hne j (by omega)⟩
/-- All rows are copied. -/
theorem Tw.done (h : Tw w wr p1 p2 B m v1 vB cur k) (hk : m.bs.length ≤ k) (hw : ∀ j, B ≤ j → w'.heap[j]? = wr.heap[j]?) : Mp w' m v1 vB (newer w) := by
  have hB := h.hB
  have hlo : Lo wr B vB m.bs := ⟨cur, h.row, fun j xs u hx hu => h.new j u xs (by have := (List.getElem?_eq_some_iff.1 hx).1; omega) hu hx⟩
  exact ⟨(h.ns.keep (fun j hj => hw j hj.1)).mono (fun j hj => by have := hj.1; unfold newer; omega), ((Bv.own hlo).keep hw).mono (fun j hj => by unfold newer; omega)⟩
/-- The numbers are copied, and the row of rows. -/
theorem Tw.start {wD w1 w2 : World} {a b v1 vB : Value} {us : List Value} (hb : Below w.heap.size w wD) (h1 : Nk wD p1 (m5 m a b) 31) (h2 : Nk wD p2 zero5 31) (hs : wD.heap.size = w.heap.size + 2) (hp : p1 = w.heap.size ∧ p2 = w.heap.size + 1) (hv1 : Nv w1 v1 m.ns (newer wD)) (hb1 : Below wD.heap.size wD w1)
    (ho : w2.ownsRow w1.heap.size 66 1 vB m.bs.length us) (hu : ∀ (j : Nat) u x, us[j]? = some u → m.bs[j]? = some x → Bs w u x) (hb2 : Below w1.heap.size w1 w2) :
    Tw w ((w2.setCell ⟨p1, 3, none⟩ v1).setCell ⟨p1, 4, none⟩ vB) p1 p2 wD.heap.size m v1 vB us 0 := by
  have hB : Below wD.heap.size wD w2 := hb1.trans (hb2.mono hb1.size)
  have hne : ∀ j, j ≠ p1 → ((w2.setCell ⟨p1, 3, none⟩ v1).setCell ⟨p1, 4, none⟩ vB).heap[j]? = w2.heap[j]? := fun j hj => (RowKit.Below.heap_setCell _ _ _ _ hj).trans (RowKit.Below.heap_setCell _ _ _ _ hj)
  have hs1 := hb1.size
  have hs2 := hb2.size
  have k1 := ((h1.keep (hB.block _ h1.lt)).set 3 v1).set 4 vB
  have g1 := grownBy_setCell w2 ⟨p1, 3, none⟩ v1
  have g2 := grownBy_setCell (w2.setCell ⟨p1, 3, none⟩ v1) ⟨p1, 4, none⟩ vB
  refine ⟨k1, (h2.keep (hB.block _ h2.lt)).keep (hne p2 (by omega)), (hv1.lt9.keep (fun j hj => ?_)).mono (fun j hj => ⟨hj.1, fun e => ?_⟩), ?_, fun j u x hj => absurd hj (Nat.not_lt_zero _), fun j u x _ hu1 hx1 => hu j u x hu1 hx1, ?_, by omega, by omega⟩
  · have : p1 < w1.heap.size := by omega
    refine (hne j (fun e => ?_)).trans (hb2.block j hj.2)
    have := hj.1
    unfold newer at this
    omega
  · have := (ho.lt j e).1
    have := hj.2
    omega
  · refine (row_same9 ho (fun k e => hne k (fun e2 => ?_))).mono hs1
    have := (ho.lt k e).1
    omega
  · have h3 : Below w.heap.size w w2 := hb.trans (hB.mono (by omega))
    exact h3.trans ⟨g2.os.trans g1.os, g2.tape.trans g1.tape, g2.output.trans g1.output, Nat.le_trans g1.size g2.size, fun j hj => hne j (by omega)⟩
end

set_option maxRecDepth 20000 in
set_option maxHeartbeats 8000000 in
theorem twin_any9 (m : Nq.Ms) (a b : Value) (K : Nat → Prop) (w : World) (h : Mp w m a b K) (hl : Lite m) :
    Calls Try.prog 29 #[mv m a b] w fun e w' => ∃ a1 n1 c1 a2 n2 c2, e = .returned (mv m (.slice a1 n1 c1) (.slice a2 n2 c2)) ∧ Mp w' m (.slice a1 n1 c1) (.slice a2 n2 c2) (newer w) ∧ Below w.heap.size w w' := by
  have HM : Hid (Mp w m a b K ∧ Lite m) := ⟨h, hl⟩
  obtain ⟨a1, n1, c1, rfl, ha, _⟩ := h.ns
  obtain ⟨a2, n2, c2, rfl, hb, _⟩ := h.bs
  rename_i hj1 hj2
  clear h hl ha hb hj1 hj2
  unfold mv
  go_enter Try.func29, Try.ntmps29
  go_wp2_with fail
  obtain ⟨p1, hp1⟩ : ∃ z, z = w.heap.size := ⟨_, rfl⟩
  obtain ⟨p2, hp2⟩ : ∃ z, z = w.heap.size + 1 := ⟨_, rfl⟩
  have B1 := (Below.refl _ w).alloc (Nat.le_refl _) (.cells (m5 m (.slice a1 n1 c1) (.slice a2 n2 c2)).toArray 31)
  have k1 := Nk.made w (m5 m (.slice a1 n1 c1) (.slice a2 n2 c2)) 31
  have k2 := Nk.made (w.alloc (.cells (m5 m (.slice a1 n1 c1) (.slice a2 n2 c2)).toArray 31)) zero5 31
  have s1 : (w.alloc (.cells (m5 m (.slice a1 n1 c1) (.slice a2 n2 c2)).toArray 31)).heap.size = w.heap.size + 1 := by simp
  have B2 := B1.alloc B1.size (.cells zero5.toArray 31)
  have k1' := k1.keep (((Below.refl _ (w.alloc (.cells (m5 m (.slice a1 n1 c1) (.slice a2 n2 c2)).toArray 31))).alloc (Nat.le_refl _) (.cells zero5.toArray 31)).block _ k1.lt)
  have s2 : ((w.alloc (.cells (m5 m (.slice a1 n1 c1) (.slice a2 n2 c2)).toArray 31)).alloc (.cells zero5.toArray 31)).heap.size = w.heap.size + 2 := by simp
  rw [s1, ← hp2] at k2
  rw [← hp1] at k1'
  have H0 : Hid (p1 = w.heap.size ∧ p2 = w.heap.size + 1) := ⟨hp1, hp2⟩
  rw [← hp2, ← hp1]
  clear hp1 hp2 k1 s1 B1
  unfold m5 zero5 at B2 k1' k2 s2
  generalize ((w.alloc (.cells [.int .i64 m.fr, .int .i64 m.to, .int .i64 m.kind, .slice a1 n1 c1, .slice a2 n2 c2].toArray 31)).alloc (.cells [.int .i64 0, .int .i64 0, .int .i64 0, .slice none 0 0, .slice none 0 0].toArray 31)) = w0 at *
  have HW : Hid (Below w.heap.size w w0.drew ∧ Nk w0.drew p1 (m5 m (.slice a1 n1 c1) (.slice a2 n2 c2)) 31 ∧ Nk w0.drew p2 zero5 31 ∧ w0.drew.heap.size = w.heap.size + 2) := ⟨B2.drew, k1', k2, s2⟩
  clear B2 k1' k2 s2
  refine wp_region_U (fun w' => w'.cell? ⟨p1, 3, none⟩ = some (.slice a1 n1 c1) ∧ w'.cell? ⟨p1, 4, none⟩ = some (.slice a2 n2 c2)) [7, 9] (by kernel_rfl) ?_
  generalize w0.drew = wD at *
  have HBV : Hid (∀ w', Below wD.heap.size wD w' → ∃ K, Bv w' (.slice a2 n2 c2) m.bs K) := fun w' hb => ⟨_, HM.out.1.bs.lt9.keep (fun k hk => ((HW.out.1.trans (hb.mono (by have := HW.out.1.size; omega))).block k hk.2))⟩
  have HSX : Hid (∀ w', Below wD.heap.size wD w' → w'.cell? ⟨p1, 3, none⟩ = some (.slice a1 n1 c1) ∧ w'.cell? ⟨p1, 4, none⟩ = some (.slice a2 n2 c2)) := fun w' hb => ⟨(HW.out.2.1.keep (hb.block _ HW.out.2.1.lt)).cell 3, (HW.out.2.1.keep (hb.block _ HW.out.2.1.lt)).cell 4⟩
  refine' take_U (i := 0) (d := 5) (v := _) rfl rfl (by kernel_rfl) (by kernel_rfl) (by kernel_rfl) (by kernel_rfl) (by kernel_rfl) (by kernel_rfl) (fun _ _ _ h => h) (Or.inl ⟨by rfl, ?h0⟩) ((HSX.out _ (Below.refl _ _))) ?_
  case h0 => intro w hSw; go_simp; with_reducible rfl
  simp only [List.setIfInBounds_toArray, List.set_cons_zero, List.set_cons_succ]
  refine' take_U (i := 1) (d := 6) (v := _) rfl rfl (by kernel_rfl) (by kernel_rfl) (by kernel_rfl) (by kernel_rfl) (by kernel_rfl) (by kernel_rfl) (fun _ _ _ h => h) (Or.inl ⟨by rfl, ?h1⟩) ((HSX.out _ (Below.refl _ _))) ?_
  case h1 => intro w hSw; obtain ⟨hc1, hc2⟩ := hSw; go_simp; with_reducible rfl
  simp only [List.setIfInBounds_toArray, List.set_cons_zero, List.set_cons_succ]
  refine' take_U (i := 3) (d := 8) (v := _) rfl rfl (by kernel_rfl) (by kernel_rfl) (by kernel_rfl) (by kernel_rfl) (by kernel_rfl) (by kernel_rfl) (fun _ _ _ h => h) (Or.inl ⟨by rfl, ?h3⟩) ((HSX.out _ (Below.refl _ _))) ?_
  case h3 => intro w hSw; go_simp; with_reducible rfl
  simp only [List.setIfInBounds_toArray, List.set_cons_zero, List.set_cons_succ]
  refine' take_U (i := 4) (d := 9) (v := _) rfl rfl (by kernel_rfl) (by kernel_rfl) (by kernel_rfl) (by kernel_rfl) (by kernel_rfl) (by kernel_rfl) (fun _ _ _ h => h) (Or.inl ⟨by rfl, ?h4⟩) ((HSX.out _ (Below.refl _ _))) ?_
  case h4 => intro w hSw; obtain ⟨hc1, hc2⟩ := hSw; go_simp; with_reducible rfl
  simp only [List.setIfInBounds_toArray, List.set_cons_zero, List.set_cons_succ]
  refine wpAnyU_ready (rs := [2]) (by kernel_rfl) (by simp) ?_
  refine AllReadyU.cons (o := _) rfl (fun K hK => ?_) AllReadyU.nil
  go_simp
  refine (cloneN9 _ m.ns _ _ (HM.out.1.ns.lt9.keep (w' := wD) (fun k hk => HW.out.1.block k hk.2)) HM.out.2.ns).mono ?_
  rintro e w1 ⟨x1, y1, z1, rfl, hv, hb⟩
  have HV1 : Hid (Nv w1 (.slice x1 y1 z1) m.ns (newer wD) ∧ Below wD.heap.size wD w1) := ⟨hv, hb⟩
  clear hv hb
  refine hK.out _ _ (fun _ _ => HSX.out _ HV1.out.2) ?_
  clear hK K
  refine' take_U (i := 6) (d := 11) (v := _) rfl rfl (by kernel_rfl) (by kernel_rfl) (by kernel_rfl) (by kernel_rfl) (by kernel_rfl) (by kernel_rfl) (fun _ _ _ h => h) (Or.inl ⟨by rfl, ?h6⟩) ((HSX.out _ HV1.out.2)) ?_
  case h6 => intro w hSw; go_simp; with_reducible rfl
  simp only [List.setIfInBounds_toArray, List.set_cons_zero, List.set_cons_succ]
  refine wpAnyU_ready (rs := [5]) (by kernel_rfl) (by simp) ?_
  refine AllReadyU.cons (o := _) rfl (fun K hK => ?_) AllReadyU.nil
  go_simp
  refine (cloneB9' _ m.bs w w1 ⟨_, HM.out.1.bs⟩ (HW.out.1.trans (HV1.out.2.mono (by have := HW.out.1.size; omega))) HM.out.2.bs).mono ?_
  rintro e w2 ⟨x2, y2, z2, us, rfl, ho, hbs, hb⟩
  have HV2 : Hid (w2.ownsRow w1.heap.size 66 1 (.slice x2 y2 z2) m.bs.length us ∧ (∀ (j : Nat) u x, us[j]? = some u → m.bs[j]? = some x → Bs w u x) ∧ Below w1.heap.size w1 w2) := ⟨ho, hbs, hb⟩
  clear ho hbs hb
  have HB2 : Hid (Below wD.heap.size wD w2) := HV1.out.2.trans (HV2.out.2.2.mono HV1.out.2.size)
  refine hK.out _ _ (fun _ _ => HSX.out _ HB2.out) ?_
  clear hK K
  have HP : Hid (w2.cell? ⟨p1, 3, none⟩ = some (.slice a1 n1 c1) ∧ w2.cell? ⟨p1, 4, none⟩ = some (.slice a2 n2 c2) ∧ w2.frozen? ⟨p1, 3, none⟩ = false ∧ w2.frozen? ⟨p1, 4, none⟩ = false) := ⟨(HSX.out _ HB2.out).1, (HSX.out _ HB2.out).2, (HW.out.2.1.keep (HB2.out.block _ HW.out.2.1.lt)).free 3, (HW.out.2.1.keep (HB2.out.block _ HW.out.2.1.lt)).free 4⟩
  refine wpAnyU_ready (rs := [7]) (by kernel_rfl) (by simp) ?_
  refine AllReadyU.cons (o := _) rfl (fun K hK => ?_) AllReadyU.nil
  obtain ⟨hc1, hc2, hf1, hf2⟩ := HP.out
  go_simp
  clear hc1 hc2 hf1 hf2
  refine hK.out _ _ (fun h => absurd (by simp) h) ?_
  clear hK K
  have HQ : Hid ((w2.setCell ⟨p1, 3, none⟩ (.slice x1 y1 z1)).cell? ⟨p1, 4, none⟩ = some (.slice a2 n2 c2) ∧ (w2.setCell ⟨p1, 3, none⟩ (.slice x1 y1 z1)).frozen? ⟨p1, 4, none⟩ = false) := ⟨((HW.out.2.1.keep (HB2.out.block _ HW.out.2.1.lt)).set 3 _).cell 4, ((HW.out.2.1.keep (HB2.out.block _ HW.out.2.1.lt)).set 3 _).free 4⟩
  refine' take_P (i := 8) (d := 12) (v := _) rfl rfl (by kernel_rfl) (by kernel_rfl) (by kernel_rfl) (by kernel_rfl) (by kernel_rfl) (fun _ _ _ h => h) (Or.inl ⟨by rfl, ?h8⟩) (fun h => by have := h 7 (by simp); simp at this) ?_
  case h8 => intro w hSw; go_simp; with_reducible rfl
  simp only [List.setIfInBounds_toArray, List.set_cons_zero, List.set_cons_succ]
  refine wpAnyU_ready (rs := [9]) (by kernel_rfl) (by simp) ?_
  refine AllReadyU.cons (o := _) rfl (fun K hK => ?_) AllReadyU.nil
  have HT : Hid (Tw w ((w2.setCell ⟨p1, 3, none⟩ (.slice x1 y1 z1)).setCell ⟨p1, 4, none⟩ (.slice x2 y2 z2)) p1 p2 wD.heap.size m (.slice x1 y1 z1) (.slice x2 y2 z2) us 0) := Tw.start HW.out.1 HW.out.2.1 HW.out.2.2.1 HW.out.2.2.2 H0.out HV1.out.1 HV1.out.2 HV2.out.1 HV2.out.2.1 HV2.out.2.2
  obtain ⟨hc1, hf1⟩ := HQ.out
  go_simp
  clear hc1 hf1
  refine hK.out _ _ (fun h => absurd (by simp) h) ?_
  clear hK K
  generalize ((w2.setCell ⟨p1, 3, none⟩ (.slice x1 y1 z1)).setCell ⟨p1, 4, none⟩ (.slice x2 y2 z2)) = wE at *
  refine wpAnyU_done (by kernel_rfl) ?_ _
  have HYN : Hid (y2 = m.bs.length) := by
    obtain ⟨a9, c9, e9, _⟩ := row_shape9 HT.out.row
    simp only [Value.slice.injEq] at e9
    exact e9.2.1
  clear HV1 HV2 HB2 HP HQ HSX HBV
  generalize wD.heap.size = B at *
  clear HW wD
  have l4 : wE.cell? ⟨p1, 4, none⟩ = some (.slice x2 y2 z2) := HT.out.blk.cell 4
  have hyl : y2 ≤ 2000000 := by rw [HYN.out]; exact HM.out.2.bs
  go_wp2
  clear l4
  go_loopw [16] (fun i wr => ∃ k : Nat, k ≤ y2 ∧ i = .int .i64 (k : Int) ∧ ∃ cur, Tw w wr p1 p2 B m (.slice x1 y1 z1) (.slice x2 y2 z2) cur k) (fun i _ => y2 - (intOf i).toNat)
  case atStart => exact ⟨0, Nat.zero_le _, rfl, us, HT.out⟩
  case round =>
    obtain ⟨k, hk, rfl, cur, hT⟩ := hrel
    have HR : Hid (Tw w wr p1 p2 B m (.slice x1 y1 z1) (.slice x2 y2 z2) cur k) := hT
    clear hT HT
    by_cases hlt : k < y2
    · have hlt' : (k : Int) < (y2 : Int) := by omega
      have hk0 : (0 : Int) ≤ (k : Int) := by omega
      have hwk : IntKind.wrap .i64 ((k : Int) + 1) = (k : Int) + 1 := by rw [IntKind.wrap_i64]; omega
      obtain ⟨g, hg⟩ : ∃ g, x2 = some ⟨g, 0, none⟩ := by
        obtain ⟨a9, c9, e9, h9⟩ := row_shape9 HR.out.row
        simp only [Value.slice.injEq] at e9
        rw [e9.1]
        exact h9 (by have := HYN.out; omega)
      subst hg
      have hkl : k < m.bs.length := by rw [← HYN.out]; exact hlt
      obtain ⟨x, hx⟩ : ∃ x, m.bs[k]? = some x := ⟨_, List.getElem?_eq_getElem hkl⟩
      obtain ⟨u, hu⟩ : ∃ u, cur[k]? = some u := ⟨_, List.getElem?_eq_getElem (by rw [HR.out.clen]; exact hkl)⟩
      have hbs := HR.out.old k u x (Nat.le_refl _) hu hx
      have HX : Hid (m.bs[k]? = some x ∧ Bs w u x) := ⟨hx, hbs⟩
      obtain ⟨ua, un, uc, rfl, hun, _⟩ := hbs
      rename_i hj3
      clear hj3 hun
      have lk : wr.cell? ⟨g, k, none⟩ = some (.slice ua un uc) := by
        have hr := HR.out.row
        rw [← HYN.out] at hr
        rw [hr.cellAt k (by omega), hu]
      clear hx hu hkl
      go_wp2_with fail
      clear lk
      refine wp_region_T (fun w' => w'.cell? ⟨p1, 4, none⟩ = some (.slice (some ⟨g, 0, none⟩) y2 z2)) 6 (by kernel_rfl) ?_
      have HRD : Hid (Tw w wr.drew p1 p2 B m (.slice x1 y1 z1) (.slice (some ⟨g, 0, none⟩) y2 z2) cur k) := ⟨HR.out.blk, HR.out.res, HR.out.ns.keep (fun _ _ => rfl), HR.out.row.drew, fun j u x h1 h2 h3 => (HR.out.new j u x h1 h2 h3).drew, HR.out.old, HR.out.below.drew, HR.out.hB, HR.out.hp⟩
      clear HR
      generalize wr.drew = wS at *
      have HS4 : Hid (∀ w', Below wS.heap.size wS w' → w'.cell? ⟨p1, 4, none⟩ = some (.slice (some ⟨g, 0, none⟩) y2 z2)) := fun w' hb => (HRD.out.blk.keep (hb.block _ HRD.out.blk.lt)).cell 4
      refine' take_T (i := 0) (d := 21) (v := _) rfl rfl (by kernel_rfl) (by kernel_rfl) (by kernel_rfl) (by kernel_rfl) (by kernel_rfl) (fun _ _ _ h => h) (Or.inl ⟨by rfl, ?h0⟩) ((HS4.out _ (Below.refl _ _))) ?_
      case h0 => intro w hSw; go_simp; with_reducible rfl
      simp only [List.setIfInBounds_toArray, List.set_cons_zero, List.set_cons_succ]
      refine' take_T (i := 1) (d := 22) (v := _) rfl rfl (by kernel_rfl) (by kernel_rfl) (by kernel_rfl) (by kernel_rfl) (by kernel_rfl) (fun _ _ _ h => h) (Or.inl ⟨by rfl, ?h1⟩) ((HS4.out _ (Below.refl _ _))) ?_
      case h1 => intro w hSw; go_simp; with_reducible rfl
      simp only [List.setIfInBounds_toArray, List.set_cons_zero, List.set_cons_succ]
      refine' take_T (i := 2) (d := 23) (v := _) rfl rfl (by kernel_rfl) (by kernel_rfl) (by kernel_rfl) (by kernel_rfl) (by kernel_rfl) (fun _ _ _ h => h) (Or.inl ⟨by rfl, ?h2⟩) ((HS4.out _ (Below.refl _ _))) ?_
      case h2 => intro w hSw; go_simp; with_reducible rfl
      simp only [List.setIfInBounds_toArray, List.set_cons_zero, List.set_cons_succ]
      refine' take_T (i := 3) (d := 24) (v := _) rfl rfl (by kernel_rfl) (by kernel_rfl) (by kernel_rfl) (by kernel_rfl) (by kernel_rfl) (fun _ _ _ h => h) (Or.inl ⟨by rfl, ?h3⟩) ((HS4.out _ (Below.refl _ _))) ?_
      case h3 => intro w hSw; go_simp; with_reducible rfl
      simp only [List.setIfInBounds_toArray, List.set_cons_zero, List.set_cons_succ]
      refine wpAnyT_ready (rs := [4]) (by kernel_rfl) (by simp) ?_
      refine AllReadyT.cons (o := _) rfl (fun K hK => ?_) AllReadyT.nil
      go_simp
      refine (cloneS9 _ x wS (HX.out.2.below HRD.out.below) (HM.out.2.rows x (List.mem_of_getElem? HX.out.1))).mono ?_
      rintro e wT ⟨xa, xn, xc, rfl, ho, hb⟩
      have HOT : Hid (wT.ownsRow wS.heap.size 5 1 (.slice xa xn xc) x.length (bc x) ∧ Below wS.heap.size wS wT) := ⟨ho, hb⟩
      clear ho hb
      refine hK.out _ _ (fun _ => HS4.out _ HOT.out.2) ?_
      clear hK K
      refine' take_T (i := 5) (d := 26) (v := _) rfl rfl (by kernel_rfl) (by kernel_rfl) (by kernel_rfl) (by kernel_rfl) (by kernel_rfl) (fun _ _ _ h => h) (Or.inl ⟨by rfl, ?h5⟩) ((HS4.out _ HOT.out.2)) ?_
      case h5 => intro w hSw; go_simp; with_reducible rfl
      simp only [List.setIfInBounds_toArray, List.set_cons_zero, List.set_cons_succ]
      refine wpAnyT_ready (rs := [6]) (by kernel_rfl) (by simp) ?_
      refine AllReadyT.cons (o := _) rfl (fun K hK => ?_) AllReadyT.nil
      have HN : Hid (Tw w (wT.setCell ⟨g, k, none⟩ (.slice xa xn xc)) p1 p2 B m (.slice x1 y1 z1) (.slice (some ⟨g, 0, none⟩) y2 z2) (cur.set k (.slice xa xn xc)) (k + 1)) := HRD.out.next HX.out.1 HOT.out.2 HOT.out.1
      have HCF : Hid ((∃ y, wT.cell? ⟨g, k, none⟩ = some y) ∧ wT.frozen? ⟨g, k, none⟩ = false) := by
        have h1 : wT.ownsRow B 66 1 (.slice (some ⟨g, 0, none⟩) y2 z2) m.bs.length cur := HRD.out.row.kept (grownBy_below (row := none) HOT.out.2) (by cases (Value.slice (some ⟨g, 0, none⟩) y2 z2).ownBlock <;> simp)
        have h2 := HYN.out
        have h3 := HRD.out.clen
        have h4 : k < cur.length := by omega
        rw [← HYN.out] at h1
        refine ⟨⟨_, (h1.cellAt k (by omega)).trans (List.getElem?_eq_getElem h4)⟩, ?_⟩
        obtain ⟨cu, hcu⟩ := row_of9 h1 (k := g) rfl
        simp only [World.frozen?, hcu]
        rfl
      obtain ⟨⟨yv, hc1⟩, hf1⟩ := HCF.out
      go_simp
      clear hc1 hf1
      refine hK.out _ _ (fun h => absurd rfl h) ?_
      clear hK K
      generalize wT.setCell ⟨g, k, none⟩ (.slice xa xn xc) = wU at *
      refine wpAnyT_done (by kernel_rfl) ?_ _
      go_wp2
      go_roundw
      case rel => exact ⟨k + 1, by omega, by go_num, _, HN.out⟩
      case measure => simp [intOf]; omega
    · have hlt' : ¬ (k : Int) < (y2 : Int) := by omega
      have f0 : wr.cell? ⟨p1, 0, none⟩ = some (.int .i64 m.fr) := HR.out.blk.cell 0
      have f1 : wr.cell? ⟨p1, 1, none⟩ = some (.int .i64 m.to) := HR.out.blk.cell 1
      have f2 : wr.cell? ⟨p1, 2, none⟩ = some (.int .i64 m.kind) := HR.out.blk.cell 2
      have f3 : wr.cell? ⟨p1, 3, none⟩ = some (.slice x1 y1 z1) := HR.out.blk.cell 3
      have f4 : wr.cell? ⟨p1, 4, none⟩ = some (.slice x2 y2 z2) := HR.out.blk.cell 4
      have e0 : wr.cell? ⟨p2, 0, none⟩ = some (.int .i64 0) := HR.out.res.cell 0
      have e1 : wr.cell? ⟨p2, 1, none⟩ = some (.int .i64 0) := HR.out.res.cell 1
      have e2 : wr.cell? ⟨p2, 2, none⟩ = some (.int .i64 0) := HR.out.res.cell 2
      have e3 : wr.cell? ⟨p2, 3, none⟩ = some (.slice none 0 0) := HR.out.res.cell 3
      have e4 : wr.cell? ⟨p2, 4, none⟩ = some (.slice none 0 0) := HR.out.res.cell 4
      have g0 := HR.out.res.free 0
      have g1 := HR.out.res.free 1
      have g2 := HR.out.res.free 2
      have g3 := HR.out.res.free 3
      have g4 := HR.out.res.free 4
      go_wp2
      have H5 := set5_rest wr p2 (.int .i64 m.fr) (.int .i64 m.to) (.int .i64 m.kind) (.slice x1 y1 z1) (.slice x2 y2 z2)
      refine bodyPost_ret (v := .agg #[.int .i64 m.fr, .int .i64 m.to, .int .i64 m.kind, .slice x1 y1 z1, .slice x2 y2 z2]) ?_ rfl ?_
      · rw [results_one9 rfl]
        go_simp
      · have hp := HR.out.hp
        have hb := HR.out.below
        exact ⟨_, _, _, _, _, _, rfl, HR.out.done (by rw [← HYN.out]; omega) (fun j hj => H5.1 j (by omega)), hb.trans ⟨H5.2.2.1, H5.2.2.2.1, H5.2.2.2.2, H5.2.1, fun j hj => H5.1 j (by omega)⟩⟩
end Go.Proofs.Ytkldecdjokfajaa
