/- What Tick does. -/
import Derived.Test.YtlabdhllindenaaApp15
namespace Go.Proofs.Ytlabdhllindenaa
open Go.RowKit

/-- What Tick has under way: w the world behind the clock's step. -/
structure Ti15 (w wx : World) (q g : Nat) (bl : List Value) (C0 : List Value) (l : List Sq.One) (z : Int) (k m : Nat) (vt : Value) : Prop where
  le : k ≤ l.length
  blk : Cb wx q bl 56
  len : m = ((l.take k).filter (fun x : Sq.One => !Sq.ends z x)).length
  row : Cb wx g (ocs ((l.take k).filter (fun x : Sq.One => !Sq.ends z x)) ++ C0.drop (m * 3)) 58
  told : wx.ownsRow w.heap.size 2 1 vt (((l.take k).filter (Sq.ends z)).map Sq.One.id).length (ic (((l.take k).filter (Sq.ends z)).map Sq.One.id))
  grown : w.grownBy wx (some g)
section
variable {w wx wy : World} {q g k m : Nat} {bl : List Value} {vt : Value} {C0 : List Value} {l : List Sq.One} {z : Int}
theorem Ti15.later (h : Ti15 w wx q g bl C0 l z k m vt) (hb : Below wx.heap.size wx wy) : Ti15 w wy q g bl C0 l z k m vt :=
  ⟨h.le, h.blk.below hb, h.len, h.row.below hb, row_stays h.told fun j hj => hb.block j (h.told.lt j hj).2, grownBy_trans h.grown (grownBy_below hb)⟩
theorem Ti15.mk_ (h : Ti15 w wx q g bl C0 l z k m vt) : m ≤ k := by
  rw [h.len]
  have h1 := List.length_filter_le (fun x : Sq.One => !Sq.ends z x) (l.take k)
  rw [List.length_take] at h1
  omega
theorem Ti15.at (h : Ti15 w wx q g bl C0 l z k m vt) (hC : C0.take (l.length * 3) = ocs l) {x : Sq.One} (hx : l[k]? = some x) : wx.cell? ⟨g, k * 3, none⟩ = some (.int .i64 x.id) ∧ wx.cell? ⟨g, k * 3 + 1, none⟩ = some (.int .i64 x.span) ∧ wx.cell? ⟨g, k * 3 + 2, none⟩ = some (.int .i64 x.till) := by
  have hk := (List.getElem?_eq_some_iff.1 hx).1
  have hm := h.mk_
  have hl : (ocs ((l.take k).filter (fun x : Sq.One => !Sq.ends z x))).length = m * 3 := by rw [ocs_len, h.len]
  have key : ∀ i u, i < 3 → (oc x)[i]? = some u → wx.cell? ⟨g, k * 3 + i, none⟩ = some u := fun i u hi hu => by
    rw [h.row.cell, List.getElem?_append_right (by rw [hl]; omega), hl, List.getElem?_drop, show m * 3 + (k * 3 + i - m * 3) = k * 3 + i by omega]
    have h1 := ocs_cell l k x i u hx hu
    rw [← hC, List.getElem?_take, if_pos (by omega)] at h1
    exact h1
  exact ⟨key 0 _ (by decide) rfl, key 1 _ (by decide) rfl, key 2 _ (by decide) rfl⟩
theorem filter_snoc15 {f : Sq.One → Bool} {x : Sq.One} (hx : l[k]? = some x) : (l.take (k + 1)).filter f = (l.take k).filter f ++ if f x then [x] else [] := by
  rw [List.take_add_one, hx, List.filter_append]
  congr 1
  cases h : f x <;> simp [h]
theorem Ti15.tell (h : Ti15 w wx q g bl C0 l z k m vt) {x : Sq.One} (hx : l[k]? = some x) (hh : Sq.ends z x = true) {v' : Value} (hg : wx.grownBy wy vt.ownBlock) (hgw : g < w.heap.size) (hqw : q < w.heap.size)
    (ho : wy.ownsRow w.heap.size 2 1 v' (((l.take k).filter (Sq.ends z)).map Sq.One.id ++ [x.id]).length (ic (((l.take k).filter (Sq.ends z)).map Sq.One.id ++ [x.id]))) :
    Ti15 w wy q g bl C0 l z (k + 1) m v' := by
  have hk := (List.getElem?_eq_some_iff.1 hx).1
  have hne : ∀ j, j < w.heap.size → vt.ownBlock ≠ some j := fun j hj e => by have := (h.told.lt j e).1; omega
  have e1 := filter_snoc15 (f := (fun x : Sq.One => !Sq.ends z x)) hx
  have e2 := filter_snoc15 (f := Sq.ends z) hx
  simp only [hh, Bool.not_true, Bool.false_eq_true, if_false, if_true, List.append_nil] at e1 e2
  have hws := h.grown.size
  refine ⟨by omega, h.blk.keep (hg.block q h.blk.lt (fun e => hne q hqw e.symm)), by rw [e1]; exact h.len, ?_, ?_, ?_⟩
  · rw [e1]
    exact h.row.keep (hg.block g h.row.lt (fun e => hne g hgw e.symm))
  · rw [e2, List.map_append]
    exact ho
  · exact ⟨hg.os.trans h.grown.os, hg.tape.trans h.grown.tape, hg.output.trans h.grown.output, Nat.le_trans hws hg.size, fun j hj e => (hg.block j (by omega) (fun e2 => hne j hj e2.symm)).trans (h.grown.block j hj e)⟩
theorem Ti15.stay (h : Ti15 w wx q g bl C0 l z k m vt) {x : Sq.One} (hx : l[k]? = some x) (hh : Sq.ends z x = false) (hgw : g < w.heap.size) (hqg : q ≠ g) :
    Ti15 w (wx.setRow g (over (ocs ((l.take k).filter (fun x : Sq.One => !Sq.ends z x)) ++ C0.drop (m * 3)) (m * 3) (oc x)).toArray) q g bl C0 l z (k + 1) (m + 1) vt := by
  have hk := (List.getElem?_eq_some_iff.1 hx).1
  have hm := h.mk_
  have hl : (ocs ((l.take k).filter (fun x : Sq.One => !Sq.ends z x))).length = m * 3 := by rw [ocs_len, h.len]
  have hne : vt.ownBlock ≠ some g := fun e => by have := (h.told.lt g e).1; omega
  have e1 := filter_snoc15 (f := (fun x : Sq.One => !Sq.ends z x)) hx
  have e2 := filter_snoc15 (f := Sq.ends z) hx
  simp only [hh, Bool.not_false, Bool.false_eq_true, if_false, if_true, List.append_nil] at e1 e2
  have e3 : over (ocs ((l.take k).filter (fun x : Sq.One => !Sq.ends z x)) ++ C0.drop (m * 3)) (m * 3) (oc x) = ocs ((l.take (k + 1)).filter (fun x : Sq.One => !Sq.ends z x)) ++ C0.drop ((m + 1) * 3) := by
    unfold over
    rw [← hl, List.take_left, e1, ocs_app, hl]
    have e5 : ocs [x] = oc x := by unfold ocs; simp
    rw [e5]
    congr 1
    have e4 : m * 3 + (oc x).length = (m + 1) * 3 := by simp only [oc, List.length_cons, List.length_nil]; omega
    rw [e4, List.drop_append, List.drop_of_length_le (by rw [hl]; omega), hl, List.nil_append, List.drop_drop, show m * 3 + ((m + 1) * 3 - m * 3) = (m + 1) * 3 by omega]
  rw [e3]
  refine ⟨by omega, h.blk.rowed_other hqg _, by rw [e1, List.length_append, ← h.len]; rfl, h.row.rowed _, ?_, grownBy_trans h.grown (rowed_grown wx g _)⟩
  rw [e2]
  exact row_stays h.told fun j hj => setRow_other wx g j _ (fun e => hne (by rw [hj, e]))
end
/-- The clock's step. -/
theorem Ls15.clock {w : World} {q : Nat} {s : Sq.St} {v : Value} (h : Ls15 w q s v) (z : Int) : Ls15 (w.setCell ⟨q, 1, none⟩ (.int .i64 z)) q ⟨s.room, z, s.next, s.l⟩ v ∧ Moved w (w.setCell ⟨q, 1, none⟩ (.int .i64 z)) (Fs15 v q) (Fs15 v q) ∧ (w.setCell ⟨q, 1, none⟩ (.int .i64 z)).heap.size = w.heap.size := by
  have hg := grownBy_setCell w ⟨q, 1, none⟩ (.int .i64 z)
  have hap := h.blk.apart h.row (by decide)
  exact ⟨⟨h.blk.set 1 _, row_stays h.row fun k hk => hg.block k (h.row.lt k hk).2 (fun e => hap (by rw [hk]; simpa using e))⟩, ⟨hg.os, hg.tape, hg.output, hg.size, fun k hk hF => hg.block k hk (fun e => hF (Or.inr (by simpa using e))), fun k hk => Or.inl hk⟩, by simp [World.setCell]⟩
/-- A row's whole block. -/
theorem row_whole15 {w : World} {g N c t : Nat} {l : List Sq.One} (h : w.ownsRow 0 t 3 (.slice (some ⟨g, 0, none⟩) N c) N (ocs l)) : ∃ C0 : List Value, Cb w g C0 t ∧ C0.length = c * 3 ∧ C0.take (N * 3) = ocs l ∧ c ≤ maxLen ∧ N ≤ c := by
  rcases h.2 with ⟨e, _⟩ | ⟨g', c', cur, e, j1, j2, j3, j4, j5, j6⟩
  · cases e
  · simp only [Value.slice.injEq, Option.some.injEq, Addr.mk.injEq, and_true] at e
    obtain ⟨⟨rfl, _⟩, _, rfl⟩ := e
    exact ⟨cur.toList, by unfold Cb; rw [Array.toArray_toList]; exact j2, by simpa using j5, j6, j4, j3⟩

set_option maxRecDepth 20000 in
set_option maxHeartbeats 8000000 in
theorem tick_some15 (q g N c : Nat) (s : Sq.St) (m0 : Int) (w : World) (hl : Ls15 w q s (.slice (some ⟨g, 0, none⟩) N c)) (hf : Sq.Fine m0 s) (hm0 : m0 ≤ 2199023255552) (hN : N = s.l.length) :
    Calls Try.prog 13 #[dptr q] w fun e w' => ∃ F' v, e = .returned v ∧ Bi w' v (Sq.over s) ∧ (∀ k, v.ownBlock = some k → w.heap.size ≤ k ∧ ¬ F' k) ∧ LSe w' q (Sq.tick s) F' ∧ Moved w w' (Fs15 (.slice (some ⟨g, 0, none⟩) N c) q) F' := by
  obtain ⟨z, hz⟩ : ∃ z, z = s.now + 1 := ⟨_, rfl⟩
  have hwz : IntKind.wrap .i64 (s.now + 1) = z := by have := hf.nowm; have := hf.now0; rw [hz, IntKind.wrap_i64]; omega
  obtain ⟨hl1, hm1, hs1⟩ := hl.clock z
  have hN1 : N ≤ 64 := by rw [hN]; exact hf.len64
  have HZ : Hid (z = s.now + 1) := hz
  have H0 : Hid (Ls15 w q s (.slice (some ⟨g, 0, none⟩) N c)) := hl
  have c1 : w.cell? ⟨q, 1, none⟩ = some (.int .i64 s.now) := hl.blk.cell 1
  have f1 := hl.blk.free 1
  unfold dptr
  clear hz hf hl
  go_enter Try.func13, Try.ntmps13
  go_upto_region 3 with fail
  have hrow := hl1.row
  simp only [] at hrow
  rw [← hN] at hrow
  obtain ⟨C0, hC, hcl, htk, hcm, hNc⟩ := row_whole15 hrow
  have hgw := hC.lt
  have hqw := hl1.blk.lt
  have hqg : q ≠ g := fun e => by have := hl1.blk.apart hrow (by decide); exact this (by rw [e]; rfl)
  have H1 : Hid (N = s.l.length ∧ C0.length = c * 3 ∧ C0.take (s.l.length * 3) = ocs s.l ∧ c ≤ maxLen ∧ g < (w.setCell ⟨q, 1, none⟩ (.int .i64 z)).heap.size ∧ q < (w.setCell ⟨q, 1, none⟩ (.int .i64 z)).heap.size ∧ q ≠ g ∧ (w.setCell ⟨q, 1, none⟩ (.int .i64 z)).heap.size = w.heap.size ∧ Moved w (w.setCell ⟨q, 1, none⟩ (.int .i64 z)) (Fs15 (.slice (some ⟨g, 0, none⟩) N c) q) (Fs15 (.slice (some ⟨g, 0, none⟩) N c) q)) := ⟨hN, hcl, by rw [← hN]; exact htk, hcm, hgw, hqw, hqg, hs1, hm1⟩
  have H2 : Hid (Ti15 (w.setCell ⟨q, 1, none⟩ (.int .i64 z)) (w.setCell ⟨q, 1, none⟩ (.int .i64 z)) q g [.int .i64 s.room, .int .i64 z, .int .i64 s.next, .slice (some ⟨g, 0, none⟩) N c] C0 s.l z 0 0 (.slice none 0 0)) := ⟨Nat.zero_le _, hl1.blk, rfl, hC, World.ownsRow_nil _ _ _ _, ⟨rfl, rfl, rfl, Nat.le_refl _, fun _ _ _ => rfl⟩⟩
  have Nc : (N : Int) ≤ (c : Int) := by omega
  have hc63 : c ≤ 9223372036854775807 := by unfold maxLen at hcm; omega
  have c0 : (0 : Int) ≤ (c : Int) := by omega
  clear hN hrow hC hcl htk hcm hgw hqw hqg hs1 hm1 c1 f1 hl1
  generalize (w.setCell ⟨q, 1, none⟩ (.int .i64 z)) = w1 at *
  have c3 : w1.cell? ⟨q, 3, none⟩ = some (.slice (some ⟨g, 0, none⟩) N c) := H2.out.blk.cell 3
  go_wp2
  clear c3
  go_loopw [3, 4, 24] (fun t lf i wx => ∃ k m : Nat, k ≤ N ∧ i = .int .i64 (k : Int) ∧ lf = .slice (some ⟨g, 0, none⟩) m c ∧ Ti15 w1 wx q g [.int .i64 s.room, .int .i64 z, .int .i64 s.next, .slice (some ⟨g, 0, none⟩) N c] C0 s.l z k m t) (fun _ _ i _ => N - (intOf i).toNat)
  case atStart => exact ⟨0, 0, Nat.zero_le _, rfl, rfl, H2.out⟩
  case round =>
    obtain ⟨k, m, hk, rfl, rfl, hI⟩ := hrel
    have H3 : Hid (Ti15 w1 wr q g [.int .i64 s.room, .int .i64 z, .int .i64 s.next, .slice (some ⟨g, 0, none⟩) N c] C0 s.l z k m u3) := hI
    have hmk : m ≤ k := hI.mk_
    clear hI H2
    by_cases hlt : k < N
    · have hlt' : (k : Int) < (N : Int) := by omega
      have hk0 : (0 : Int) ≤ (k : Int) := by omega
      have hwk : IntKind.wrap .i64 ((k : Int) + 1) = (k : Int) + 1 := by rw [IntKind.wrap_i64]; omega
      obtain ⟨x, hx⟩ : ∃ x, s.l[k]? = some x := ⟨s.l[k]'(by rw [← H1.out.1]; exact hlt), List.getElem?_eq_getElem _⟩
      have HX : Hid (s.l[k]? = some x) := hx
      obtain ⟨r0, r1, r2⟩ := H3.out.at H1.out.2.2.1 hx
      clear hx
      obtain ⟨xb, hxb⟩ : ∃ z, z = wr.heap.size := ⟨_, rfl⟩
      have H4 : Hid (Ti15 w1 (wr.alloc (.cells #[.int .i64 x.id, .int .i64 x.span, .int .i64 x.till] 58)) q g [.int .i64 s.room, .int .i64 z, .int .i64 s.next, .slice (some ⟨g, 0, none⟩) N c] C0 s.l z k m u3 ∧ Cb (wr.alloc (.cells #[.int .i64 x.id, .int .i64 x.span, .int .i64 x.till] 58)) xb (oc x) 58) := by
        have hb := (Below.refl _ wr).alloc (Nat.le_refl _) (.cells #[.int .i64 x.id, .int .i64 x.span, .int .i64 x.till] 58)
        rw [hxb]
        exact ⟨H3.out.later hb, Cb.made wr (oc x) _⟩
      obtain ⟨at_, ct, ht9, j1, j2⟩ := row_form H3.out.told
      obtain ⟨E, hE⟩ : ∃ E, E = (((s.l.take k).filter (Sq.ends z)).map Sq.One.id).length := ⟨_, rfl⟩
      rw [← hE] at ht9
      have HE : Hid (E = (((s.l.take k).filter (Sq.ends z)).map Sq.One.id).length ∧ E ≤ 64) := ⟨hE, by
        rw [hE, List.length_map]
        have e1 := List.length_filter_le (Sq.ends z) (s.l.take k)
        rw [List.length_take] at e1
        omega⟩
      subst ht9
      clear j1 j2 hE
      go_upto_region 7 with fail
      rw [← hxb]
      clear hxb r0 r1 r2 H3
      generalize (wr.alloc (.cells #[.int .i64 x.id, .int .i64 x.span, .int .i64 x.till] 58)) = w3 at *
      have d0 : w3.cell? ⟨xb, 0, none⟩ = some (.int .i64 x.id) := H4.out.2.cell 0
      have d1 : w3.cell? ⟨xb, 1, none⟩ = some (.int .i64 x.span) := H4.out.2.cell 1
      have d2 : w3.cell? ⟨xb, 2, none⟩ = some (.int .i64 x.till) := H4.out.2.cell 2
      have c1 : w3.cell? ⟨q, 1, none⟩ = some (.int .i64 z) := H4.out.1.blk.cell 1
      go_quiet (fail)
      have H5 : Hid (Ti15 w1 (w3.drewN nq) q g [.int .i64 s.room, .int .i64 z, .int .i64 s.next, .slice (some ⟨g, 0, none⟩) N c] C0 s.l z k m (.slice at_ E ct) ∧ Cb (w3.drewN nq) xb (oc x) 58) := by
        have hb : Below w3.heap.size w3 (w3.drewN nq) := below_drewN (Below.refl _ _) _
        exact ⟨H4.out.1.later hb, H4.out.2.below hb⟩
      clear d0 d1 d2 c1 H4
      generalize w3.drewN nq = w4 at *
      have d0 : w4.cell? ⟨xb, 0, none⟩ = some (.int .i64 x.id) := H5.out.2.cell 0
      have d1 : w4.cell? ⟨xb, 1, none⟩ = some (.int .i64 x.span) := H5.out.2.cell 1
      have d2 : w4.cell? ⟨xb, 2, none⟩ = some (.int .i64 x.till) := H5.out.2.cell 2
      by_cases hT : z < x.till
      · have HK : Hid (Sq.ends z x = false) := (show Sq.ends z x = false by unfold Sq.ends; exact decide_eq_false (by omega))
        obtain ⟨sb, hsb⟩ : ∃ z, z = w4.heap.size := ⟨_, rfl⟩
        have H6 : Hid (Ti15 w1 (w4.alloc (.cells #[.int .i64 x.id, .int .i64 x.span, .int .i64 x.till] 58)) q g [.int .i64 s.room, .int .i64 z, .int .i64 s.next, .slice (some ⟨g, 0, none⟩) N c] C0 s.l z k m (.slice at_ E ct) ∧ Cb (w4.alloc (.cells #[.int .i64 x.id, .int .i64 x.span, .int .i64 x.till] 58)) sb (oc x) 58) := by
          have hb := (Below.refl _ w4).alloc (Nat.le_refl _) (.cells #[.int .i64 x.id, .int .i64 x.span, .int .i64 x.till] 58)
          rw [hsb]
          exact ⟨H5.out.1.later hb, Cb.made w4 (oc x) _⟩
        have hrun : ∀ ty, (Builtin.append_ #[54, 54] ty #[.slice (some ⟨g, 0, none⟩) m c, .slice (some ⟨sb, 0, none⟩) 1 1]).run Try.prog (w4.alloc (.cells #[.int .i64 x.id, .int .i64 x.span, .int .i64 x.till] 58)) = .ok (.slice (some ⟨g, 0, none⟩) (m + 1) c) ((w4.alloc (.cells #[.int .i64 x.id, .int .i64 x.span, .int .i64 x.till] 58)).setRow g (over (ocs ((s.l.take k).filter (fun x : Sq.One => !Sq.ends z x)) ++ C0.drop (m * 3)) (m * 3) (oc x)).toArray) := fun ty => by
          obtain ⟨i0, hi, hz0, hz1, hz2⟩ := info_parts infoSe
          have hsrc : Src Try.prog i0.size 54 (.slice (some ⟨sb, 0, none⟩) 1 1) 1 (oc x) (w4.alloc (.cells #[.int .i64 x.id, .int .i64 x.span, .int .i64 x.till] 58)) := by
            rw [hz1]
            exact Src.ofSlice (w4.alloc (.cells #[.int .i64 x.id, .int .i64 x.span, .int .i64 x.till] 58)) Try.underlying54 ⟨sb, 0, none⟩ 1 1 (oc x) rfl (fun j u hu => by rw [Addr.add_lit, Nat.zero_add, H6.out.2.cell j]; exact hu) (by have := ocs_one [x]; simpa [ocs] using this)
          have e1 := run_append_part (P := Try.prog) (w4.alloc (.cells #[.int .i64 x.id, .int .i64 x.span, .int .i64 x.till] 58)) 54 54 ty 58 i0 Try.underlying54 hi g 0 m c (.slice (some ⟨sb, 0, none⟩) 1 1) 1 (oc x) (ocs ((s.l.take k).filter (fun x : Sq.One => !Sq.ends z x)) ++ C0.drop (m * 3)) 58 hsrc (by omega) H6.out.1.row (by
            rw [hz1, List.length_append, ocs_len, ← H6.out.1.len, List.length_drop, H1.out.2.1]
            simp only [oc, List.length_cons, List.length_nil]
            omega)
          rw [hz1, Nat.zero_add] at e1
          exact e1
        go_wp2_with (at_builtin; rw [← hsb]; refine wpList_append_known (w4.alloc (.cells #[.int .i64 x.id, .int .i64 x.span, .int .i64 x.till] 58)) rfl _ _ 54 54 rfl (.slice (some ⟨g, 0, none⟩) m c) (.slice (some ⟨sb, 0, none⟩) 1 1) rfl rfl (hrun _) ?_)
        have H7 : Hid (Ti15 w1 ((w4.alloc (.cells #[.int .i64 x.id, .int .i64 x.span, .int .i64 x.till] 58)).setRow g (over (ocs ((s.l.take k).filter (fun x : Sq.One => !Sq.ends z x)) ++ C0.drop (m * 3)) (m * 3) (oc x)).toArray) q g [.int .i64 s.room, .int .i64 z, .int .i64 s.next, .slice (some ⟨g, 0, none⟩) N c] C0 s.l z (k + 1) (m + 1) (.slice at_ E ct)) := H6.out.1.stay HX.out HK.out H1.out.2.2.2.2.1 H1.out.2.2.2.2.2.2.1
        clear hsb d0 d1 d2 hrun H6
        generalize (w4.alloc (.cells #[.int .i64 x.id, .int .i64 x.span, .int .i64 x.till] 58)).setRow g (over (ocs ((s.l.take k).filter (fun x : Sq.One => !Sq.ends z x)) ++ C0.drop (m * 3)) (m * 3) (oc x)).toArray = w6 at *
        go_wp2
        go_roundw
        case rel => exact ⟨k + 1, m + 1, by omega, by go_num, rfl, H7.out⟩
        case measure => simp [intOf]; omega
      · have HK : Hid (Sq.ends z x = true) := (show Sq.ends z x = true by unfold Sq.ends; exact decide_eq_true (by omega))
        obtain ⟨sb, hsb⟩ : ∃ z, z = w4.heap.size := ⟨_, rfl⟩
        have H6 : Hid (Ti15 w1 (w4.alloc (.cells #[.int .i64 x.id] 2)) q g [.int .i64 s.room, .int .i64 z, .int .i64 s.next, .slice (some ⟨g, 0, none⟩) N c] C0 s.l z k m (.slice at_ E ct) ∧ Cb (w4.alloc (.cells #[.int .i64 x.id] 2)) sb (ic [x.id]) 2) := by
          have hb := (Below.refl _ w4).alloc (Nat.le_refl _) (.cells #[.int .i64 x.id] 2)
          rw [hsb]
          exact ⟨H5.out.1.later hb, Cb.made w4 (ic [x.id]) _⟩
        go_wp2_with (at_builtin; rw [← hsb]; refine wpList_ic15 rfl _ _ rfl w1.heap.size (.slice at_ E ct) (((s.l.take k).filter (Sq.ends z)).map Sq.One.id) [x.id] sb 1 2 (w4.alloc (.cells #[.int .i64 x.id] 2)) rfl rfl H6.out.1.told H6.out.1.grown.size H6.out.2 (by have h1 := HE.out; simp only [List.length_singleton]; omega) ?_)
        clear hsb d0 d1 d2
        generalize (w4.alloc (.cells #[.int .i64 x.id] 2)) = w5 at *
        intro v6 w6 hr6 hb6 hg6 hv6
        have H7 : Hid (Ti15 w1 w6 q g [.int .i64 s.room, .int .i64 z, .int .i64 s.next, .slice (some ⟨g, 0, none⟩) N c] C0 s.l z (k + 1) m v6) := H6.out.1.tell HX.out HK.out hg6 H1.out.2.2.2.2.1 H1.out.2.2.2.2.2.1 (by simpa using hr6)
        obtain ⟨a6, c6, e6, j1, j2⟩ := row_form hr6
        subst e6
        clear hr6 hb6 hg6 hv6 j1 j2
        go_wp2
        go_roundw
        case rel => exact ⟨k + 1, m, by omega, by go_num, rfl, H7.out⟩
        case measure => simp [intOf]; omega
    · have hlt' : ¬ (k : Int) < (N : Int) := by omega
      obtain rfl : k = N := by omega
      have HT : Hid (s.l.take k = s.l) := List.take_of_length_le (by rw [← H1.out.1]; exact Nat.le_refl _)
      obtain ⟨at_, ct, ht9, j1, j2⟩ := row_form H3.out.told
      obtain ⟨E, hE⟩ : ∃ E, E = (((s.l.take k).filter (Sq.ends z)).map Sq.One.id).length := ⟨_, rfl⟩
      rw [← hE] at ht9
      subst ht9
      clear j1 j2 hE
      have c3 : wr.cell? ⟨q, 3, none⟩ = some (.slice (some ⟨g, 0, none⟩) k c) := H3.out.blk.cell 3
      have f3 := H3.out.blk.free 3
      have HEN : Hid (∃ F', Bi (wr.setCell ⟨q, 3, none⟩ (.slice (some ⟨g, 0, none⟩) m c)) (.slice at_ E ct) (Sq.over s) ∧ (∀ k, (Value.slice at_ E ct).ownBlock = some k → w.heap.size ≤ k ∧ ¬ F' k) ∧ LSe (wr.setCell ⟨q, 3, none⟩ (.slice (some ⟨g, 0, none⟩) m c)) q (Sq.tick s) F' ∧ Moved w (wr.setCell ⟨q, 3, none⟩ (.slice (some ⟨g, 0, none⟩) m c)) (Fs15 (.slice (some ⟨g, 0, none⟩) k c) q) F') := by
        have hs := grownBy_setCell wr ⟨q, 3, none⟩ (.slice (some ⟨g, 0, none⟩) m c)
        have hqg := H1.out.2.2.2.2.2.2.1
        have hgw := H1.out.2.2.2.2.1
        have hqw := H1.out.2.2.2.2.2.1
        have hsw := H1.out.2.2.2.2.2.2.2.1
        have hmv := H1.out.2.2.2.2.2.2.2.2
        have htold := H3.out.told
        have hgr := H3.out.grown
        have htn : ∀ j, (Value.slice at_ E ct).ownBlock = some j → w1.heap.size ≤ j ∧ j < wr.heap.size := fun j hj => htold.lt j hj
        have hwl : (ocs ((s.l.take k).filter (fun x : Sq.One => !Sq.ends z x))).length = m * 3 := by rw [ocs_len, H3.out.len]
        refine ⟨Fs15 (.slice (some ⟨g, 0, none⟩) m c) q, ?_, fun j hj => ⟨by rw [← hsw]; exact (htn j hj).1, fun e => ?_⟩, ⟨_, ⟨?_, ?_⟩, rfl⟩, ?_⟩
        · have e1 : Sq.over s = ((s.l.take k).filter (Sq.ends z)).map Sq.One.id := by unfold Sq.over; rw [HT.out, HZ.out]
          rw [e1]
          refine (Bi.own htold).keep fun j hj _ => ?_
          have := htn j hj
          exact hs.block j this.2 (by simp; omega)
        · have := (htn j hj).1
          rcases e with e | e
          · simp only [Value.ownBlock, Option.some.injEq] at e
            omega
          · omega
        · have h1 := H3.out.blk.set 3 (.slice (some ⟨g, 0, none⟩) m c)
          have e1 : (Sq.tick s).now = z := HZ.out.symm
          rw [e1]
          exact h1
        · have e1 : (Sq.tick s).l = (s.l.take k).filter (fun x : Sq.One => !Sq.ends z x) := by unfold Sq.tick; rw [HT.out, HZ.out]
          have hD := H3.out.row
          have hDs : Cb (wr.setCell ⟨q, 3, none⟩ (.slice (some ⟨g, 0, none⟩) m c)) g (ocs ((s.l.take k).filter (fun x : Sq.One => !Sq.ends z x)) ++ C0.drop (m * 3)) 58 := hD.keep (hs.block g hD.lt (by simp; omega))
          rw [e1, ← H3.out.len]
          refine ⟨by rw [hwl], Or.inr ⟨g, c, _, rfl, Nat.zero_le _, hDs, by omega, H1.out.2.2.2.1, ?_, ?_⟩⟩
          · simp only [List.size_toArray, List.length_append, hwl, List.length_drop, H1.out.2.1]
            omega
          · show (ocs ((s.l.take k).filter (fun x : Sq.One => !Sq.ends z x)) ++ C0.drop (m * 3)).take (m * 3) = _
            rw [← hwl, List.take_left]
        · refine ⟨hs.os.trans (hgr.os.trans hmv.os), hs.tape.trans (hgr.tape.trans hmv.tape), hs.output.trans (hgr.output.trans hmv.output), Nat.le_trans hmv.size (Nat.le_trans hgr.size hs.size), fun j hj hF => ?_, fun j hj => Or.inl ?_⟩
          · have hj1 : j ≠ q := fun e => hF (Or.inr e)
            have hj2 : j ≠ g := fun e => hF (Or.inl (by rw [e]; rfl))
            have e1 := hgr.size
            rw [hs.block j (by omega) (by simp; omega), hgr.block j (by omega) (by simp; omega), hmv.block j hj hF]
          · exact hj
      go_wp2
      go_ret
      obtain ⟨F', z1, z2, z3, z4⟩ := HEN.out
      first | exact ⟨F', _, rfl, z1, z2, z3, z4⟩ | exact ⟨_, rfl, F', z1, z2, z3, z4⟩
set_option maxRecDepth 20000 in
set_option maxHeartbeats 4000000 in
theorem tick_nil15 (q : Nat) (s : Sq.St) (m0 : Int) (w : World) (hl : Ls15 w q s (.slice none 0 0)) (hf : Sq.Fine m0 s) (hm0 : m0 ≤ 2199023255552) (hN : s.l = []) :
    Calls Try.prog 13 #[dptr q] w fun e w' => ∃ F' v, e = .returned v ∧ Bi w' v (Sq.over s) ∧ (∀ k, v.ownBlock = some k → w.heap.size ≤ k ∧ ¬ F' k) ∧ LSe w' q (Sq.tick s) F' ∧ Moved w w' (Fs15 (.slice none 0 0) q) F' := by
  obtain ⟨z, hz⟩ : ∃ z, z = s.now + 1 := ⟨_, rfl⟩
  have hwz : IntKind.wrap .i64 (s.now + 1) = z := by have := hf.nowm; have := hf.now0; rw [hz, IntKind.wrap_i64]; omega
  obtain ⟨hl1, hm1, hs1⟩ := hl.clock z
  have c1 : w.cell? ⟨q, 1, none⟩ = some (.int .i64 s.now) := hl.blk.cell 1
  have f1 := hl.blk.free 1
  have HE : Hid (∃ F', Bi ((w.setCell ⟨q, 1, none⟩ (.int .i64 z)).setCell ⟨q, 3, none⟩ (.slice none 0 0)) (.slice none 0 0) (Sq.over s) ∧ (∀ k, (Value.slice none 0 0).ownBlock = some k → w.heap.size ≤ k ∧ ¬ F' k) ∧ LSe ((w.setCell ⟨q, 1, none⟩ (.int .i64 z)).setCell ⟨q, 3, none⟩ (.slice none 0 0)) q (Sq.tick s) F' ∧ Moved w ((w.setCell ⟨q, 1, none⟩ (.int .i64 z)).setCell ⟨q, 3, none⟩ (.slice none 0 0)) (Fs15 (.slice none 0 0) q) F') := by
    have hs := grownBy_setCell (w.setCell ⟨q, 1, none⟩ (.int .i64 z)) ⟨q, 3, none⟩ (.slice none 0 0)
    have e1 : Sq.over s = [] := by unfold Sq.over; rw [hN]; rfl
    have e2 : Sq.tick s = ⟨s.room, z, s.next, []⟩ := by unfold Sq.tick; rw [hN, hz]; rfl
    rw [e1, e2]
    refine ⟨Fs15 (.slice none 0 0) q, ⟨_, _, _, rfl, rfl, fun j z hz => by simp at hz⟩, fun k hk => by (cases hk), ⟨_, ⟨hl1.blk.set 3 _, World.ownsRow_nil _ _ _ _⟩, rfl⟩, hs.os.trans hm1.os, hs.tape.trans hm1.tape, hs.output.trans hm1.output, Nat.le_trans hm1.size hs.size, fun k hk hF => ?_, fun k hk => Or.inl hk⟩
    rw [hs.block k (by omega) (fun e => hF (Or.inr (by simpa using e))), hm1.block k hk hF]
  have d3 : (w.setCell ⟨q, 1, none⟩ (.int .i64 z)).cell? ⟨q, 3, none⟩ = some (.slice none 0 0) := hl1.blk.cell 3
  have g3 := hl1.blk.free 3
  unfold dptr
  clear hf hl hl1 hm1 hs1 hz hN
  go_enter Try.func13, Try.ntmps13
  go_upto_region 3 with fail
  clear c1 f1
  generalize (w.setCell ⟨q, 1, none⟩ (.int .i64 z)) = w1 at *
  go_wp2
  go_loopw [3, 4, 24] (fun t lf i wx => t = .slice none 0 0 ∧ lf = .slice none 0 0 ∧ i = .int .i64 0 ∧ wx = w1) (fun _ _ _ _ => 0)
  case atStart => exact ⟨rfl, rfl, rfl, rfl⟩
  case round =>
    obtain ⟨rfl, rfl, rfl, rfl⟩ := hrel
    go_wp2
    go_ret
    obtain ⟨F', z1, z2, z3, z4⟩ := HE.out
    first | exact ⟨F', _, rfl, z1, z2, z3, z4⟩ | exact ⟨_, rfl, F', z1, z2, z3, z4⟩
theorem tick_any15 (q : Nat) (s : Sq.St) (F : Nat → Prop) (m : Int) (w : World) (hL : LSe w q s F) (hf : Sq.Fine m s) (hm : m ≤ 2199023255552) :
    Calls Try.prog 13 #[dptr q] w fun e w' => ∃ F' v, e = .returned v ∧ Bi w' v (Sq.over s) ∧ (∀ k, v.ownBlock = some k → w.heap.size ≤ k ∧ ¬ F' k) ∧ LSe w' q (Sq.tick s) F' ∧ Moved w w' F F' := by
  obtain ⟨v, hl, rfl⟩ := hL
  have hr := hl.row
  obtain ⟨N, hN⟩ : ∃ N, N = s.l.length := ⟨_, rfl⟩
  rw [← hN] at hr
  rcases hr.2 with ⟨rfl, h0⟩ | ⟨g, c, cur, rfl, _⟩
  · exact tick_nil15 q s m w hl hf hm (List.length_eq_zero_iff.1 (by rw [← hN]; exact h0))
  · exact tick_some15 q g N c s m w hl hf hm hN
end Go.Proofs.Ytlabdhllindenaa
