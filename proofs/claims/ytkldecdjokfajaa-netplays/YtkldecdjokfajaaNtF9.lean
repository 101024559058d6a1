/- What the landed network does when a message goes (drop). -/
import Derived.Test.YtkldecdjokfajaaNtE9
import Derived.Test.YtkldecdjokfajaaShelf
import Derived.Lib.OwnBridge
namespace Go.Proofs.Ytkldecdjokfajaa
open Go.RowKit

/-- A pointer to a block, or none. -/
def encP : Option Nat → Value
  | some p => dptr p
  | none => .pointer none
theorem zeroPtr9 (w : World) : (zeroValue 63).run Try.prog w = .ok (.pointer none) w := by kernel_rfl
theorem grownBy_putP {w : World} {g q : Nat} {d : Array (Option Nat)} : w.grownBy (Sort.putRow encP (Sort.ahead w q) g 0 d) (some g) :=
  ⟨rfl, rfl, rfl, by simp [Sort.putRow, Sort.mapBlock, Sort.ahead], fun k _ hk => by
    have hne : g ≠ k := fun e => hk (by rw [e])
    simp [Sort.putRow, Sort.mapBlock, Sort.ahead, Array.getElem?_modify, hne]⟩
theorem enc_some (ps : List Nat) : (ps.map some).map encP = ps.map dptr := by rw [List.map_map]; rfl

theorem delete_any9 (gg m cv k : Nat) (ps : List Nat) (w : World) (ho : w.ownsRow 0 63 1 (.slice (some ⟨gg, 0, none⟩) m cv) m (ps.map dptr)) (hk : k < m) :
    Calls Try.prog 37 #[.slice (some ⟨gg, 0, none⟩) m cv, .int .i64 (k : Int), .int .i64 ((k : Int) + 1)] w fun e w' => e = .returned (.slice (some ⟨gg, 0, none⟩) (m - 1) cv) ∧ w'.ownsRow 0 63 1 (.slice (some ⟨gg, 0, none⟩) (m - 1) cv) (m - 1) ((ps.eraseIdx k).map dptr) ∧ w.grownBy w' (some gg) := by
  obtain ⟨i0, hi0, _, hz1, _⟩ := info_parts infoPtr9
  have hl : ps.length = m := by have := ho.1; simp at this; omega
  rw [← enc_some] at ho
  obtain ⟨g1, c1, e1, _, _, h4, h5, h6, h7⟩ := Lib.holds_of_ownsRow ho (by simp)
  simp only [Value.slice.injEq, Option.some.injEq, Addr.mk.injEq, and_true, true_and] at e1
  obtain ⟨rfl, rfl⟩ := e1
  have hsz : (ps.map some).toArray.size = m := by simp [hl]
  have hd := Try.slices_Delete_msg encP (fun x => by cases x <;> rfl) none zeroPtr9 i0 hi0 hz1 gg 0 cv k (k + 1) (ps.map some).toArray w h7 (by rw [hsz]; exact h4) (Nat.le_trans h5 (by unfold maxLen; omega)) (by omega) (by rw [hsz]; omega)
  rw [hsz] at hd
  have hc : (((k + 1 : Nat) : Int)) = (k : Int) + 1 := by omega
  rw [hc] at hd
  refine hd.mono ?_
  rintro e w' ⟨rfl, q, rfl⟩
  have hys : ((ps.map some).take k ++ (ps.map some).drop (k + 1) ++ List.replicate (k + 1 - k) (none : Option Nat)).length = m := by
    simp [hl]
    omega
  refine ⟨by rw [show m - (k + 1 - k) = m - 1 by omega], ?_, grownBy_putP⟩
  have h := Lib.ownsRow_putRow (q := q) (k := m - 1) ho hys (by omega)
  have ht : (((ps.map some).take k ++ (ps.map some).drop (k + 1) ++ List.replicate (k + 1 - k) (none : Option Nat)).take (m - 1)).map encP = (ps.eraseIdx k).map dptr := by
    have hlen : ((ps.map some).take k ++ (ps.map some).drop (k + 1)).length = m - 1 := by simp [hl]; omega
    rw [← hlen, List.take_left, List.eraseIdx_eq_take_drop_succ, ← List.map_take, ← List.map_drop, ← List.map_append, enc_some]
  rw [ht] at h
  exact h

/-- One goes. -/
theorem NtU.less {w w4 : World} {q mm gg N cv k : Nat} {n : Nq.Nt} {G : Nat → Prop} {D : DataW Nat} {ps : List Nat} (h : NtU w q n G mm D (.slice (some ⟨gg, 0, none⟩) N cv) ps) (hk : k < n.l.length) (hN : N = n.l.length) (hg : w.grownBy w4 (some gg)) (ho : w4.ownsRow 0 63 1 (.slice (some ⟨gg, 0, none⟩) (N - 1) cv) (N - 1) ((ps.eraseIdx k).map dptr)) :
    NtU (w4.setCell ⟨q, 2, none⟩ (.slice (some ⟨gg, 0, none⟩) (N - 1) cv)) q { n with l := n.l.eraseIdx k } G mm D (.slice (some ⟨gg, 0, none⟩) (N - 1) cv) (ps.eraseIdx k) ∧ Moved w (w4.setCell ⟨q, 2, none⟩ (.slice (some ⟨gg, 0, none⟩) (N - 1) cv)) (Fq q mm (.slice (some ⟨gg, 0, none⟩) N cv) G) (Fq q mm (.slice (some ⟨gg, 0, none⟩) (N - 1) cv) G) := by
  have hs4 := hg.size
  have hset := grownBy_setCell w4 ⟨q, 2, none⟩ (.slice (some ⟨gg, 0, none⟩) (N - 1) cv)
  have hs6 := hset.size
  have hql := h.qlt
  have hml := h.mlt
  have hkeep : ∀ k, k < w.heap.size → k ≠ gg → k ≠ q → (w4.setCell ⟨q, 2, none⟩ (.slice (some ⟨gg, 0, none⟩) (N - 1) cv)).heap[k]? = w.heap[k]? := fun k h1 h2 h3 => by
    rw [RowKit.Below.heap_setCell _ _ _ _ h3, hg.block k h1 (fun e => h2 (Option.some.inj e))]
  have hgq : gg ≠ q := fun e => h.v_q (by rw [← e]; rfl)
  have hgm : gg ≠ mm := fun e => h.v_m (by rw [← e]; rfl)
  have hq4 : Nk w4 q [.int .i64 (n.nodes : Int), .int .i64 (n.room : Int), .slice (some ⟨gg, 0, none⟩) N cv, .map (some mm)] 61 := h.blk.keep (hg.block q hql (fun e => hgq (Option.some.inj e).symm))
  have hG : ∀ k, G k → k < w.heap.size ∧ k ≠ gg ∧ k ≠ q := fun k hk => ⟨h.glt k hk, fun e => h.gv gg rfl (e ▸ hk), fun e => h.gq (e ▸ hk)⟩
  have hpl := h.plen
  have hl : (n.l.eraseIdx k).length = N - 1 := by rw [List.length_eraseIdx, if_pos hk, hN]
  refine ⟨⟨?_, map_keep h.own (hkeep mm hml (fun e => hgm e.symm) h.ne_m), h.keys, h.cut, ?_, fun j x p hx hp => ?_, h.gq, h.gm, fun j e => h.gv j e, fun j hj => by have := h.glt j hj; omega⟩, ⟨?_, ?_, ?_, by omega, fun j hj hF => ?_, fun j hj => Or.inl hj⟩⟩
  · have h1 := hq4.set 2 (.slice (some ⟨gg, 0, none⟩) (N - 1) cv)
    simp only [List.set_cons_zero, List.set_cons_succ] at h1
    exact h1
  · show World.ownsRow _ _ _ _ _ (n.l.eraseIdx k).length _
    rw [hl]
    exact row_same9 ho (fun j e => RowKit.Below.heap_setCell _ _ _ _ (fun e2 : j = q => hgq ((Option.some.inj e).trans e2)))
  · have hx2 : (n.l.eraseIdx k)[j]? = some x := hx
    rw [List.getElem?_eraseIdx] at hx2 hp
    have key : ∀ i, n.l[i]? = some x → ps[i]? = some p → Mb (w4.setCell ⟨q, 2, none⟩ (.slice (some ⟨gg, 0, none⟩) (N - 1) cv)) p x G := fun i h1 h2 => (h.msg i x p h1 h2).keep (fun j2 hj2 => hkeep j2 (hG j2 hj2).1 (hG j2 hj2).2.1 (hG j2 hj2).2.2)
    by_cases hjk : j < k
    · rw [if_pos hjk] at hx2 hp
      exact key j hx2 hp
    · rw [if_neg hjk] at hx2 hp
      exact key (j + 1) hx2 hp
  · rw [hset.os]; exact hg.os
  · rw [hset.tape]; exact hg.tape
  · rw [hset.output]; exact hg.output
  · exact hkeep j hj (fun e => hF (Or.inr (Or.inr (Or.inl (by rw [e]; rfl))))) (fun e => hF (Or.inl e))

set_option maxRecDepth 20000 in
set_option maxHeartbeats 4000000 in
theorem drop_any9 {w : World} {q mm k : Nat} {n : Nq.Nt} {G : Nat → Prop} {D : DataW Nat} {v : Value} {ps : List Nat} (h : NtU w q n G mm D v ps) (hf : n.l.length ≤ 100000) (hk : k < n.l.length) :
    Calls Try.prog 30 #[dptr q, .int .i64 (k : Int)] w fun e w' => e = .returned (.tuple #[]) ∧ ∃ v' ps', NtU w' q { n with l := n.l.eraseIdx k } G mm D v' ps' ∧ Moved w w' (Fq q mm v G) (Fq q mm v' G) ∧ ∀ j, j < w.heap.size → ¬ (j = q ∨ j = mm ∨ v.ownBlock = some j) → w'.heap[j]? = w.heap[j]? := by
  have HH : Hid (NtU w q n G mm D v ps) := h
  obtain ⟨av, cv, rfl, hav⟩ := h.slice
  obtain ⟨gg, rfl⟩ := hav (by omega)
  obtain ⟨N, hN⟩ : ∃ N, N = n.l.length := ⟨_, rfl⟩
  have HN : Hid (N = n.l.length) := hN
  rw [← hN] at hf hk ⊢
  rw [← hN] at HH
  clear h hav hN
  have hwk : IntKind.wrap .i64 ((k : Int) + 1) = (k : Int) + 1 := by rw [IntKind.wrap_i64]; omega
  have l2 : w.cell? ⟨q, 2, none⟩ = some (.slice (some ⟨gg, 0, none⟩) N cv) := HH.out.blk.cell 2
  go_enter Try.func30, Try.ntmps30
  go_wp2_with fail
  refine (delete_any9 gg N cv k ps w (by have h := HH.out.row; rw [← HN.out] at h; exact h) hk).mono ?_
  rintro e w4 ⟨rfl, ho, hg⟩
  have HF : Hid (NtU (w4.setCell ⟨q, 2, none⟩ (.slice (some ⟨gg, 0, none⟩) (N - 1) cv)) q { n with l := n.l.eraseIdx k } G mm D (.slice (some ⟨gg, 0, none⟩) (N - 1) cv) (ps.eraseIdx k) ∧ Moved w (w4.setCell ⟨q, 2, none⟩ (.slice (some ⟨gg, 0, none⟩) (N - 1) cv)) (Fq q mm (.slice (some ⟨gg, 0, none⟩) N cv) G) (Fq q mm (.slice (some ⟨gg, 0, none⟩) (N - 1) cv) G)) := HH.out.less (by rw [← HN.out]; exact hk) HN.out hg ho
  have HJ : Hid (∀ j, j < w.heap.size → ¬ (j = q ∨ j = mm ∨ (Value.slice (some ⟨gg, 0, none⟩) N cv).ownBlock = some j) → (w4.setCell ⟨q, 2, none⟩ (.slice (some ⟨gg, 0, none⟩) (N - 1) cv)).heap[j]? = w.heap[j]?) := fun j hj hF => by
    rw [RowKit.Below.heap_setCell _ _ _ _ (fun e => hF (Or.inl e)), hg.block j hj (fun e => hF (Or.inr (Or.inr (by rw [e]; rfl))))]
  have HQ : Hid (Nk w4 q [.int .i64 (n.nodes : Int), .int .i64 (n.room : Int), .slice (some ⟨gg, 0, none⟩) N cv, .map (some mm)] 61) := HH.out.blk.keep (hg.block q HH.out.qlt (fun e => HH.out.v_q e.symm))
  have l5 := HQ.out.cell 2
  have f5 := HQ.out.free 2
  simp only [List.getElem?_cons_zero, List.getElem?_cons_succ] at l5
  clear ho hg l2
  go_wp2
  go_end0
  exact ⟨rfl, _, _, HF.out.1, HF.out.2, HJ.out⟩
end Go.Proofs.Ytkldecdjokfajaa
