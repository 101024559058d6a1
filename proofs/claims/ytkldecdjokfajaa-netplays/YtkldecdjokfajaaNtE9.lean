/- What the landed network does when one more message waits (lay). -/
import Derived.Test.YtkldecdjokfajaaNtD9
import Derived.Deep.DeepCutAuto
namespace Go.Proofs.Ytkldecdjokfajaa
open Go.RowKit

theorem infoPtr9 : (Try.prog.info? 63).map (fun i => (i.zero, i.size, i.bytes)) = some (some (.pointer none), 1, 8) := by kernel_rfl
/-- Blocks made between two worlds. -/
def Gm (w w' : World) (G : Nat → Prop) : Nat → Prop := fun k => G k ∨ (w.heap.size ≤ k ∧ k < w'.heap.size)

/-- One more waits. -/
theorem NtU.more {w w3 w5 : World} {q mm p : Nat} {n : Nq.Nt} {G : Nat → Prop} {D : DataW Nat} {v v' : Value} {ps : List Nat} {m : Nq.Ms} {o : Obj} (h : NtU w q n G mm D v ps) (hb : Below w.heap.size w w3) (hm : Mb w3 p m (fun k => w.heap.size ≤ k ∧ k < w3.heap.size))
    (ho : w5.ownsRow 0 63 1 v' (n.l.length + 1) (ps.map dptr ++ [dptr p])) (hg : (w3.alloc o).grownBy w5 v.ownBlock) (hat : v'.ownBlock = v.ownBlock ∨ v'.ownBlock = some (w3.heap.size + 1)) :
    NtU (w5.setCell ⟨q, 2, none⟩ v') q { n with l := n.l ++ [m] } (Gm w w3 G) mm D v' (ps ++ [p]) ∧ Moved w (w5.setCell ⟨q, 2, none⟩ v') (Fq q mm v G) (Fq q mm v' (Gm w w3 G)) := by
  have hs3 := hb.size
  have hsa : (w3.alloc o).heap.size = w3.heap.size + 1 := by simp
  have hs5 := hg.size
  have hset := grownBy_setCell w5 ⟨q, 2, none⟩ v'
  have hs6 := hset.size
  have hql := h.qlt
  have hml := h.mlt
  have hkeep : ∀ k, k < w3.heap.size → v.ownBlock ≠ some k → k ≠ q → (w5.setCell ⟨q, 2, none⟩ v').heap[k]? = w3.heap[k]? := fun k h1 h2 h3 => by
    rw [RowKit.Below.heap_setCell _ _ _ _ h3, hg.block k (by omega) (fun e => h2 e.symm)]
    exact ((Below.refl _ w3).alloc (Nat.le_refl _) o).block k h1
  have hq5 : Nk w5 q [.int .i64 (n.nodes : Int), .int .i64 (n.room : Int), v, .map (some mm)] 61 := h.blk.keep (by
    rw [hg.block q (by omega) (fun e => h.v_q e.symm), ((Below.refl _ w3).alloc (Nat.le_refl _) o).block q (by omega)]
    exact hb.block q hql)
  have hnew : ∀ k, Gm w w3 G k → k < w3.heap.size ∧ v.ownBlock ≠ some k ∧ k ≠ q := fun k hk => by
    rcases hk with hk | hk
    · exact ⟨Nat.lt_of_lt_of_le (h.glt k hk) hs3, fun e => h.gv k e hk, fun e => h.gq (e ▸ hk)⟩
    · refine ⟨hk.2, fun e => ?_, by omega⟩
      have := h.vlt e
      omega
  have hl : (n.l ++ [m]).length = n.l.length + 1 := by simp
  have hpl := h.plen
  have hvne : ∀ k, v'.ownBlock = some k → k ≠ q ∧ k ≠ mm := fun k e => by
    rcases hat with e2 | e2
    · rw [e] at e2
      exact ⟨fun e3 => h.v_q (by rw [← e3, e2]), fun e3 => h.v_m (by rw [← e3, e2])⟩
    · rw [e] at e2
      simp only [Option.some.injEq] at e2
      omega
  refine ⟨⟨?_, map_keep h.own ?_, h.keys, h.cut, ?_, fun j x p' hx hp' => ?_, ?_, ?_, fun k e hG => ?_, fun k hk => ?_⟩, ⟨?_, ?_, ?_, by omega, fun k hk hF => ?_, fun k hk => ?_⟩⟩
  · have h1 := hq5.set 2 v'
    simp only [List.set_cons_zero, List.set_cons_succ] at h1
    exact h1
  · rw [hkeep mm (by omega) h.v_m h.ne_m]
    exact hb.block mm hml
  · show World.ownsRow _ _ _ _ _ (n.l ++ [m]).length _
    rw [hl, List.map_append]
    exact row_same9 ho (fun k e => RowKit.Below.heap_setCell _ _ _ _ (hvne k e).1)
  · have hx2 : (n.l ++ [m])[j]? = some x := hx
    rcases Nat.lt_or_ge j n.l.length with hj | hj
    · rw [List.getElem?_append_left hj] at hx2
      rw [List.getElem?_append_left (by omega)] at hp'
      refine ((h.msg j x p' hx2 hp').keep (fun k hk => ?_)).mono (fun k hk => Or.inl hk)
      have h4 := hnew k (Or.inl hk)
      rw [hkeep k h4.1 h4.2.1 h4.2.2]
      exact hb.block k (h.glt k hk)
    · rw [List.getElem?_append_right hj] at hx2
      rw [List.getElem?_append_right (by omega)] at hp'
      obtain ⟨h5, h6⟩ := List.getElem?_eq_some_iff.1 hx2
      have h7 : j = n.l.length := by simp at h5; omega
      rw [h7] at hx2 hp'
      simp only [Nat.sub_self, List.getElem?_cons_zero, Option.some.injEq] at hx2
      rw [show n.l.length - ps.length = 0 by omega] at hp'
      simp only [List.getElem?_cons_zero, Option.some.injEq] at hp'
      rw [← hx2, ← hp']
      refine (hm.keep (fun k hk => ?_)).mono (fun k hk => Or.inr hk)
      have h4 := hnew k (Or.inr hk)
      exact hkeep k h4.1 h4.2.1 h4.2.2
  · exact fun hG => (hnew q hG).2.2 rfl
  · rintro (hG | hG)
    · exact h.gm hG
    · omega
  · have h4 := hnew k hG
    rcases hat with e2 | e2
    · exact h4.2.1 (by rw [← e2, e])
    · rw [e] at e2
      simp only [Option.some.injEq] at e2
      omega
  · have := (hnew k hk).1
    omega
  · rw [hset.os, hg.os]; exact hb.os
  · rw [hset.tape, hg.tape]; exact hb.tape
  · rw [hset.output, hg.output]; exact hb.output
  · rw [hkeep k (by omega) (fun e => hF (Or.inr (Or.inr (Or.inl e)))) (fun e => hF (Or.inl e))]
    exact hb.block k hk
  · rcases hk with rfl | rfl | hk | hk | hk
    · exact Or.inl (Or.inl rfl)
    · exact Or.inl (Or.inr (Or.inl rfl))
    · rcases hat with e2 | e2
      · exact Or.inl (Or.inr (Or.inr (Or.inl (by rw [← e2]; exact hk))))
      · rw [hk] at e2
        simp only [Option.some.injEq] at e2
        exact Or.inr (by omega)
    · exact Or.inl (Or.inr (Or.inr (Or.inr hk)))
    · exact Or.inr hk.1

set_option maxRecDepth 20000 in
set_option maxHeartbeats 4000000 in
theorem lay_any9 {w : World} {q mm : Nat} {n : Nq.Nt} {G : Nat → Prop} {D : DataW Nat} {v : Value} {ps : List Nat} (h : NtU w q n G mm D v ps) (hf : n.l.length ≤ 100000) (m : Nq.Ms) (a b : Value) (K : Nat → Prop) (hp : Mp w m a b K) (hl : Lite m) :
    Calls Try.prog 27 #[dptr q, mv m a b] w fun e w' => e = .returned (.tuple #[]) ∧ ∃ G' v' ps', NtU w' q { n with l := n.l ++ [m] } G' mm D v' ps' ∧ Moved w w' (Fq q mm v G) (Fq q mm v' G') := by
  have HH : Hid (NtU w q n G mm D v ps) := h
  have HM : Hid (Mp w m a b K ∧ Lite m) := ⟨hp, hl⟩
  obtain ⟨a1, n1, c1, rfl, ha, _⟩ := hp.ns
  obtain ⟨a2, n2, c2, rfl, hb, _⟩ := hp.bs
  rename_i hj1 hj2
  obtain ⟨av, cv, rfl, _⟩ := h.slice
  rename_i hj3
  obtain ⟨N, hN⟩ : ∃ N, N = n.l.length := ⟨_, rfl⟩
  have HN : Hid (N = n.l.length) := hN
  rw [← hN] at hf ⊢
  rw [← hN] at HH
  clear h hp hl ha hb hj1 hj2 hj3 hN
  obtain ⟨p, hp⟩ : ∃ z, z = w.heap.size := ⟨_, rfl⟩
  have HP : Hid (p = w.heap.size) := hp
  have k1 := Nk.made w (m5 m (.slice a1 n1 c1) (.slice a2 n2 c2)) 31
  have B1 := (Below.refl _ w).alloc (Nat.le_refl _) (.cells (m5 m (.slice a1 n1 c1) (.slice a2 n2 c2)).toArray 31)
  rw [← hp] at k1
  unfold m5 at k1 B1
  unfold mv
  go_enter Try.func27, Try.ntmps27
  go_wp2_with fail
  rw [← hp]
  generalize w.alloc (.cells [.int .i64 m.fr, .int .i64 m.to, .int .i64 m.kind, .slice a1 n1 c1, .slice a2 n2 c2].toArray 31) = w1 at *
  have H1 : Hid (Nk w1 p (m5 m (.slice a1 n1 c1) (.slice a2 n2 c2)) 31 ∧ Below w.heap.size w w1) := ⟨k1, B1⟩
  clear k1 B1 hp
  refine (twin_any9 m (.slice a1 n1 c1) (.slice a2 n2 c2) _ w1 ⟨HM.out.1.ns.lt9.keep (fun k hk => H1.out.2.block k hk.2), HM.out.1.bs.lt9.keep (fun k hk => H1.out.2.block k hk.2)⟩ HM.out.2).mono ?_
  rintro e w2 ⟨x1, y1, z1, x2, y2, z2, rfl, hmp, hb⟩
  have H2 : Hid (Mp w2 m (.slice x1 y1 z1) (.slice x2 y2 z2) (newer w1) ∧ Below w1.heap.size w1 w2) := ⟨hmp, hb⟩
  have kk := H1.out.1.keep (hb.block p H1.out.1.lt)
  have HK : Hid (Nk w2 p (m5 m (.slice a1 n1 c1) (.slice a2 n2 c2)) 31) := kk
  have e0 := kk.cell 0
  have e1 := kk.cell 1
  have e2 := kk.cell 2
  have e3 := kk.cell 3
  have e4 := kk.cell 4
  have g0 := kk.free 0
  have g1 := kk.free 1
  have g2 := kk.free 2
  have g3 := kk.free 3
  have g4 := kk.free 4
  simp only [m5, List.getElem?_cons_zero, List.getElem?_cons_succ] at e0 e1 e2 e3 e4
  have H3 : Hid (Below w.heap.size w (set5 w2 p (.int .i64 m.fr) (.int .i64 m.to) (.int .i64 m.kind) (.slice x1 y1 z1) (.slice x2 y2 z2)) ∧ Mb (set5 w2 p (.int .i64 m.fr) (.int .i64 m.to) (.int .i64 m.kind) (.slice x1 y1 z1) (.slice x2 y2 z2)) p m (fun k => w.heap.size ≤ k ∧ k < (set5 w2 p (.int .i64 m.fr) (.int .i64 m.to) (.int .i64 m.kind) (.slice x1 y1 z1) (.slice x2 y2 z2)).heap.size)) := by
    have hs := set5_rest w2 p (.int .i64 m.fr) (.int .i64 m.to) (.int .i64 m.kind) (.slice x1 y1 z1) (.slice x2 y2 z2)
    have hbk := set5_blk kk (.int .i64 m.fr) (.int .i64 m.to) (.int .i64 m.kind) (.slice x1 y1 z1) (.slice x2 y2 z2)
    have hpe := HP.out
    have h12 : Below w.heap.size w w2 := H1.out.2.trans (hb.mono H1.out.2.size)
    have hp1 := H1.out.1.lt
    have hsz := H1.out.2.size
    have hkn : ∀ k, newer w1 k → k ≠ p := fun k hk e => by unfold newer at hk; omega
    refine ⟨h12.trans ⟨hs.2.2.1, hs.2.2.2.1, hs.2.2.2.2, hs.2.1, fun k hk => hs.1 k (by omega)⟩, _, _, hbk, ⟨by omega, hbk.lt⟩, ?_, ?_⟩
    · exact (hmp.ns.keep (fun k hk => hs.1 k (hkn k hk))).lt9.mono (fun k hk => ⟨by have := hk.1; unfold newer at this; omega, hk.2⟩)
    · exact (hmp.bs.keep (fun k hk => hs.1 k (hkn k hk))).lt9.mono (fun k hk => ⟨by have := hk.1; unfold newer at this; omega, hk.2⟩)
  have l2 : (set5 w2 p (.int .i64 m.fr) (.int .i64 m.to) (.int .i64 m.kind) (.slice x1 y1 z1) (.slice x2 y2 z2)).cell? ⟨q, 2, none⟩ = some (.slice av N cv) := (HH.out.below H3.out.1).blk.cell 2
  obtain ⟨i0, hi, hz0, hz1, hz2⟩ := info_parts infoPtr9
  clear hmp hb kk
  unfold mv
  go_upto_region 2 with fail
  clear e0 e1 e2 e3 e4 g0 g1 g2 g3 g4
  unfold set5 at H3 l2
  generalize (((((w2.setCell ⟨p, 0, none⟩ (.int .i64 m.fr)).setCell ⟨p, 1, none⟩ (.int .i64 m.to)).setCell ⟨p, 2, none⟩ (.int .i64 m.kind)).setCell ⟨p, 3, none⟩ (.slice x1 y1 z1)).setCell ⟨p, 4, none⟩ (.slice x2 y2 z2)) = w3 at *
  go_wp2_with (at_builtin; refine wpList_append_own_at _ rfl _ _ 59 rfl 0 63 i0 (.pointer none) 1 8 Try.underlying59 hi hz0 hz1 hz2 rfl (by decide) (.slice av N cv) N (ps.map dptr) rfl ?qa ⟨w3.heap.size, 0, none⟩ 1 1 [dptr p] rfl rfl ?qb ?qc ?qd ?qe ?qf ?_)
  case qa =>
    have h := ((HH.out.below H3.out.1).row).alloc (.cells #[dptr p] 63)
    rw [← HN.out] at h
    exact h
  case qb => exact cell_one_new _ _ _
  case qc => intro u hu; simp at hu; rw [hu]; rfl
  case qd => unfold maxLen; omega
  case qe => omega
  case qf => exact Nat.zero_le _
  intro v' w5 ho hg hnil hat
  have HF : Hid (NtU (w5.setCell ⟨q, 2, none⟩ v') q { n with l := n.l ++ [m] } (Gm w w3 G) mm D v' (ps ++ [p]) ∧ Moved w (w5.setCell ⟨q, 2, none⟩ v') (Fq q mm (.slice av N cv) G) (Fq q mm v' (Gm w w3 G))) := HH.out.more H3.out.1 H3.out.2 (by rw [← HN.out]; exact ho) hg hat
  have HQ : Hid (Nk w5 q [.int .i64 (n.nodes : Int), .int .i64 (n.room : Int), .slice av N cv, .map (some mm)] 61) := by
    have h3 := HH.out.below H3.out.1
    have hq := h3.qlt
    refine h3.blk.keep ?_
    rw [hg.block q (by simp; omega) (fun e => h3.v_q e.symm)]
    exact ((Below.refl _ w3).alloc (Nat.le_refl _) _).block q hq
  obtain ⟨a9, c9, e9, _⟩ := row_shape9 ho
  rename_i hj
  subst e9
  have l5 := HQ.out.cell 2
  have f5 := HQ.out.free 2
  simp only [List.getElem?_cons_zero, List.getElem?_cons_succ] at l5
  clear ho hg hnil hat hj l2 hi hz0 hz1 hz2
  go_wp2
  go_end0
  exact ⟨rfl, _, _, _, HF.out⟩
end Go.Proofs.Ytkldecdjokfajaa
