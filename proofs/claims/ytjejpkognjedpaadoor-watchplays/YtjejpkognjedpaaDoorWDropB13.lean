/- What Drop does: slices.DeleteFunc by a session; Drop whole; the contracts of the landed watch. -/
import Derived.Test.YtjejpkognjedpaaDoorWDrop13
namespace Go.Proofs.YtjejpkognjedpaaDoor
open Go.RowKit

/-- What DeleteFunc has under way. -/
structure De13 (w wx : World) (g : Nat) (C0 : List Value) (l : List Hq.Wt) (n : Int) (k m : Nat) : Prop where
  le : k ≤ l.length
  len : m = ((l.take k).filter (fun x : Hq.Wt => !decide (x.sess = n))).length
  row : Cb wx g (wcs ((l.take k).filter (fun x : Hq.Wt => !decide (x.sess = n))) ++ C0.drop (m * 3)) 54
  grown : w.grownBy wx (some g)
section
variable {w wx wy : World} {g k m : Nat} {C0 : List Value} {l : List Hq.Wt} {n : Int}
theorem De13.later (h : De13 w wx g C0 l n k m) (hb : Below wx.heap.size wx wy) : De13 w wy g C0 l n k m := ⟨h.le, h.len, h.row.below hb, grownBy_trans h.grown (grownBy_below hb)⟩
theorem De13.lek (h : De13 w wx g C0 l n k m) : m ≤ k := by
  rw [h.len]
  have h1 := List.length_filter_le (fun x : Hq.Wt => !decide (x.sess = n)) (l.take k)
  rw [List.length_take] at h1
  omega
theorem De13.at (h : De13 w wx g C0 l n k m) (hC : C0.take (l.length * 3) = wcs l) {x : Hq.Wt} (hx : l[k]? = some x) : wx.cell? ⟨g, k * 3, none⟩ = some (.int .i64 x.sess) ∧ wx.cell? ⟨g, k * 3 + 1, none⟩ = some (.int .i64 x.kind) ∧ wx.cell? ⟨g, k * 3 + 2, none⟩ = some (.string x.path) := by
  have hk := (List.getElem?_eq_some_iff.1 hx).1
  have hm := h.lek
  have hl : (wcs ((l.take k).filter (fun x : Hq.Wt => !decide (x.sess = n)))).length = m * 3 := by rw [wcs_len, h.len]
  have key : ∀ i u, i < 3 → (wc x)[i]? = some u → wx.cell? ⟨g, k * 3 + i, none⟩ = some u := fun i u hi hu => by
    rw [h.row.cell, List.getElem?_append_right (by rw [hl]; omega), hl, List.getElem?_drop, show m * 3 + (k * 3 + i - m * 3) = k * 3 + i by omega]
    have h1 := wcs_cell l k x i u hx hu
    rw [← hC, List.getElem?_take, if_pos (by omega)] at h1
    exact h1
  exact ⟨key 0 _ (by decide) rfl, key 1 _ (by decide) rfl, key 2 _ (by decide) rfl⟩
theorem De13.go (h : De13 w wx g C0 l n k m) {x : Hq.Wt} (hx : l[k]? = some x) (hh : x.sess = n) : De13 w wx g C0 l n (k + 1) m := by
  have hk := (List.getElem?_eq_some_iff.1 hx).1
  have e1 := filter_snoc13 (f := (fun x : Hq.Wt => !decide (x.sess = n))) hx
  simp only [hh, decide_true, Bool.not_true, Bool.false_eq_true, if_false, List.append_nil] at e1
  exact ⟨by omega, by rw [e1]; exact h.len, by rw [e1]; exact h.row, h.grown⟩
theorem De13.stay (h : De13 w wx g C0 l n k m) {x : Hq.Wt} (hx : l[k]? = some x) (hh : x.sess ≠ n) :
    De13 w (wx.setRow g (over (wcs ((l.take k).filter (fun x : Hq.Wt => !decide (x.sess = n))) ++ C0.drop (m * 3)) (m * 3) (wc x)).toArray) g C0 l n (k + 1) (m + 1) := by
  have hk := (List.getElem?_eq_some_iff.1 hx).1
  have hl : (wcs ((l.take k).filter (fun x : Hq.Wt => !decide (x.sess = n)))).length = m * 3 := by rw [wcs_len, h.len]
  have e1 := filter_snoc13 (f := (fun x : Hq.Wt => !decide (x.sess = n))) hx
  simp only [hh, decide_false, Bool.not_false, if_true] at e1
  have e3 : over (wcs ((l.take k).filter (fun x : Hq.Wt => !decide (x.sess = n))) ++ C0.drop (m * 3)) (m * 3) (wc x) = wcs ((l.take (k + 1)).filter (fun x : Hq.Wt => !decide (x.sess = n))) ++ C0.drop ((m + 1) * 3) := by
    unfold over
    rw [← hl, List.take_left, e1, wcs_app, hl]
    congr 1
    have e4 : m * 3 + (wc x).length = (m + 1) * 3 := by simp only [wc, List.length_cons, List.length_nil]; omega
    rw [e4, List.drop_append, List.drop_of_length_le (by rw [hl]; omega), hl, List.nil_append, List.drop_drop, show m * 3 + ((m + 1) * 3 - m * 3) = (m + 1) * 3 by omega]
  rw [e3]
  exact ⟨by omega, by rw [e1, List.length_append, ← h.len]; rfl, h.row.rowed _, grownBy_trans h.grown (rowed_grown wx g _)⟩
end

set_option maxRecDepth 20000 in
set_option maxHeartbeats 8000000 in
theorem delete_any13 (g N c : Nat) (l : List Hq.Wt) (n : Int) (sb : Nat) (w : World) (h : w.ownsRow 0 54 3 (.slice (some ⟨g, 0, none⟩) N c) N (wcs l)) (hN : N = l.length) (hl : N ≤ 1000) (hc : w.cell? ⟨sb, 0, none⟩ = some (.int .i64 n)) (hsg : sb ≠ g) :
    Calls Tryd.prog 25 #[.slice (some ⟨g, 0, none⟩) N c, (Value.func (.func 26) #[] #[.pointer (some ⟨sb, 0, none⟩)])] w fun e w' => ∃ M, e = .returned (.slice (some ⟨g, 0, none⟩) M c) ∧ M = (l.filter (fun x : Hq.Wt => !decide (x.sess = n))).length ∧ w'.ownsRow 0 54 3 (.slice (some ⟨g, 0, none⟩) M c) M (wcs (l.filter (fun x : Hq.Wt => !decide (x.sess = n)))) ∧ w.grownBy w' (some g) := by
  obtain ⟨C0, hC, hcl, htk, hcm, hNc⟩ : ∃ C0 : List Value, Cb w g C0 54 ∧ C0.length = c * 3 ∧ C0.take (N * 3) = wcs l ∧ c ≤ maxLen ∧ N ≤ c := by
    rcases h.2 with ⟨e, _⟩ | ⟨g', c', cur, e, j1, j2, j3, j4, j5, j6⟩
    · cases e
    · simp only [Value.slice.injEq, Option.some.injEq, Addr.mk.injEq, and_true] at e
      obtain ⟨⟨rfl, _⟩, _, rfl⟩ := e
      exact ⟨cur.toList, by unfold Cb; rw [Array.toArray_toList]; exact j2, by simpa using j5, j6, j4, j3⟩
  have H0 : Hid (w.ownsRow 0 54 3 (.slice (some ⟨g, 0, none⟩) N c) N (wcs l) ∧ N = l.length ∧ C0.length = c * 3 ∧ C0.take (l.length * 3) = wcs l ∧ c ≤ maxLen ∧ Cb w g C0 54 ∧ w.cell? ⟨sb, 0, none⟩ = some (.int .i64 n) ∧ sb ≠ g) := ⟨h, hN, hcl, by rw [← hN]; exact htk, hcm, hC, hc, hsg⟩
  have HI : Hid (Calls Tryd.prog 39 #[.slice (some ⟨g, 0, none⟩) N c, (Value.func (.func 26) #[] #[.pointer (some ⟨sb, 0, none⟩)])] w fun e w' => ∃ r, e = .returned (.int .i64 r) ∧ InL l n r ∧ Below w.heap.size w w') := index_any13 g N c l n sb w h hN hl hc
  have HCE : Hid (∀ w', w.grownBy w' (some g) → w'.cell? ⟨sb, 0, none⟩ = some (.int .i64 n)) := fun w' hg => hg.cell hc (by simpa using hsg)
  have Nc : (N : Int) ≤ (c : Int) := by omega
  have hc63 : c ≤ 9223372036854775807 := by unfold maxLen at hcm; omega
  clear h hN hc hsg hC hcl htk hcm
  go_enter Tryd.func25, Tryd.ntmps25
  go_wp2_with fail
  refine HI.out.mono ?_
  rintro e w1 ⟨r, rfl, hr, hb1⟩
  have H1 : Hid (Below w.heap.size w w1) := hb1
  clear hb1 HI
  rcases hr with ⟨rfl, hall⟩ | ⟨i, y, rfl, hy, hys, hbe⟩
  · have HF : Hid (l.filter (fun x : Hq.Wt => !decide (x.sess = n)) = l) := List.filter_eq_self.2 (fun x hx => by simp [hall x hx])
    clear hall
    go_wp2
    go_ret
    refine ⟨N, rfl, by rw [HF.out]; exact H0.out.2.1, by rw [HF.out]; exact row_stays H0.out.1 fun k hk => H1.out.block k (H0.out.1.lt k hk).2, grownBy_below H1.out⟩
  · have hiN : i < N := by rw [H0.out.2.1]; exact (List.getElem?_eq_some_iff.1 hy).1
    have HS : Hid (De13 w w1 g C0 l n (i + 1) i) := by
      have e1 : (l.take i).filter (fun x : Hq.Wt => !decide (x.sess = n)) = l.take i := List.filter_eq_self.2 (fun x hx => by simp [hbe x hx])
      have h1 : De13 w w1 g C0 l n i i := by
        refine ⟨by rw [← H0.out.2.1]; omega, by rw [e1, List.length_take, ← H0.out.2.1]; omega, ?_, grownBy_below H1.out⟩
        rw [e1, ← take_wcs13, ← H0.out.2.2.2.1, List.take_take, Nat.min_eq_left (by rw [← H0.out.2.1]; omega), List.take_append_drop]
        exact H0.out.2.2.2.2.2.1.below H1.out
      exact h1.go hy hys
    have hin : ((i : Int) == -1) = false := by simp
    have hwi : IntKind.wrap .i64 ((i : Int) + 1) = (i : Int) + 1 := by rw [IntKind.wrap_i64]; omega
    clear hy hys hbe
    go_wp2
    go_loopw [5, 6] (fun a b wx => ∃ m k : Nat, k ≤ N ∧ a = .int .i64 (m : Int) ∧ b = .int .i64 (k : Int) ∧ m < k ∧ De13 w wx g C0 l n k m) (fun _ b _ => N - (intOf b).toNat)
    case atStart => exact ⟨i, i + 1, by omega, rfl, by go_num, by omega, HS.out⟩
    case round =>
      obtain ⟨m, k, hk, rfl, rfl, hmk, hD⟩ := hrel
      have H3 : Hid (De13 w wr g C0 l n k m) := hD
      clear hD HS
      by_cases hlt : k < N
      · have hlt' : (k : Int) < (N : Int) := by omega
        have hk0 : (0 : Int) ≤ (k : Int) := by omega
        have m0 : (0 : Int) ≤ (m : Int) := by omega
        have mN : (m : Int) < (N : Int) := by omega
        have hwk : IntKind.wrap .i64 ((k : Int) + 1) = (k : Int) + 1 := by rw [IntKind.wrap_i64]; omega
        have hwm : IntKind.wrap .i64 ((m : Int) + 1) = (m : Int) + 1 := by rw [IntKind.wrap_i64]; omega
        obtain ⟨x, hx⟩ : ∃ x, l[k]? = some x := ⟨l[k]'(by rw [← H0.out.2.1]; exact hlt), List.getElem?_eq_getElem _⟩
        have HX : Hid (l[k]? = some x) := hx
        obtain ⟨r0, r1, r2⟩ := H3.out.at H0.out.2.2.2.1 hx
        clear hx
        obtain ⟨xb, hxb⟩ : ∃ z, z = wr.heap.size := ⟨_, rfl⟩
        have H4 : Hid (De13 w (wr.alloc (.cells #[.int .i64 x.sess, .int .i64 x.kind, .string x.path] 54)) g C0 l n k m ∧ Cb (wr.alloc (.cells #[.int .i64 x.sess, .int .i64 x.kind, .string x.path] 54)) xb (wc x) 54 ∧ xb ≠ g) := by
          have hb := (Below.refl _ wr).alloc (Nat.le_refl _) (.cells #[.int .i64 x.sess, .int .i64 x.kind, .string x.path] 54)
          have e1 := H3.out.row.lt
          rw [hxb]
          exact ⟨H3.out.later hb, Cb.made wr _ _, by omega⟩
        go_upto_region 8 with fail
        rw [← hxb]
        clear hxb r0 r1 r2 H3
        generalize (wr.alloc (.cells #[.int .i64 x.sess, .int .i64 x.kind, .string x.path] 54)) = w3 at *
        have d0 : w3.cell? ⟨xb, 0, none⟩ = some (.int .i64 x.sess) := H4.out.2.1.cell 0
        have d1 : w3.cell? ⟨xb, 1, none⟩ = some (.int .i64 x.kind) := H4.out.2.1.cell 1
        have d2 : w3.cell? ⟨xb, 2, none⟩ = some (.string x.path) := H4.out.2.1.cell 2
        go_wp2_with fail
        refine (isOf_any13 x n sb w3 (HCE.out _ H4.out.1.grown)).mono ?_
        rintro e w4 ⟨rfl, hb4⟩
        have H5 : Hid (De13 w w4 g C0 l n k m ∧ Cb w4 xb (wc x) 54) := ⟨H4.out.1.later hb4, H4.out.2.1.below hb4⟩
        clear hb4 d0 d1 d2
        have d0 : w4.cell? ⟨xb, 0, none⟩ = some (.int .i64 x.sess) := H5.out.2.cell 0
        have d1 : w4.cell? ⟨xb, 1, none⟩ = some (.int .i64 x.kind) := H5.out.2.cell 1
        have d2 : w4.cell? ⟨xb, 2, none⟩ = some (.string x.path) := H5.out.2.cell 2
        by_cases hs : x.sess = n
        · have hd : decide (x.sess = n) = true := by simp [hs]
          have H6 : Hid (De13 w w4 g C0 l n (k + 1) m) := H5.out.1.go HX.out hs
          rw [hd]
          clear hs hd d0 d1 d2
          go_wp2
          go_roundw
          case rel => exact ⟨m, k + 1, by omega, rfl, by go_num, by omega, H6.out⟩
          case measure => simp [intOf]; omega
        · have hd : decide (x.sess = n) = false := by simp [hs]
          have H6 : Hid (De13 w (w4.setRow g (over (wcs ((l.take k).filter (fun x : Hq.Wt => !decide (x.sess = n))) ++ C0.drop (m * 3)) (m * 3) (wc x)).toArray) g C0 l n (k + 1) (m + 1)) := H5.out.1.stay HX.out hs
          have HLN : Hid (m * 3 + 3 ≤ (wcs ((l.take k).filter (fun x : Hq.Wt => !decide (x.sess = n))) ++ C0.drop (m * 3)).length) := (show m * 3 + 3 ≤ (wcs ((l.take k).filter (fun x : Hq.Wt => !decide (x.sess = n))) ++ C0.drop (m * 3)).length by
            rw [List.length_append, wcs_len, ← H5.out.1.len, List.length_drop, H0.out.2.2.1]
            omega)
          rw [hd]
          clear hs hd
          go_wp2_with (refine wpList_store_part rfl 54 _ _ rfl g (m * 3) #[.int .i64 x.sess, .int .i64 x.kind, .string x.path] rfl rfl 54 (wcs ((l.take k).filter (fun x : Hq.Wt => !decide (x.sess = n))) ++ C0.drop (m * 3)) (over (wcs ((l.take k).filter (fun x : Hq.Wt => !decide (x.sess = n))) ++ C0.drop (m * 3)) (m * 3) (wc x)) H5.out.1.row (by kernel_rfl) HLN.out (by kernel_rfl) rfl ?_)
          clear d0 d1 d2
          generalize w4.setRow g (over (wcs ((l.take k).filter (fun x : Hq.Wt => !decide (x.sess = n))) ++ C0.drop (m * 3)) (m * 3) (wc x)).toArray = w5 at *
          go_wp2
          go_roundw
          case rel => exact ⟨m + 1, k + 1, by omega, by go_num, by go_num, by omega, H6.out⟩
          case measure => simp [intOf]; omega
      · have hlt' : ¬ (k : Int) < (N : Int) := by omega
        obtain rfl : k = N := by omega
        have m0 : (0 : Int) ≤ (m : Int) := by omega
        have mN : (m : Int) ≤ (k : Int) := by omega
        have mc : (m : Int) ≤ (c : Int) := by omega
        have cm : ¬ c = m := by omega
        have HT : Hid (l.take k = l) := List.take_of_length_le (by rw [← H0.out.2.1]; exact Nat.le_refl _)
        have HL : Hid ((wcs ((l.take k).filter (fun x : Hq.Wt => !decide (x.sess = n)))).length = m * 3 ∧ (wcs ((l.take k).filter (fun x : Hq.Wt => !decide (x.sess = n))) ++ C0.drop (m * 3)).length = c * 3) := by
          have e1 : (wcs ((l.take k).filter (fun x : Hq.Wt => !decide (x.sess = n)))).length = m * 3 := by rw [wcs_len, H3.out.len]
          exact ⟨e1, by rw [List.length_append, e1, List.length_drop, H0.out.2.2.1]; omega⟩
        obtain ⟨zs, hzs⟩ : ∃ z, z = (Builtin.zeroCells (Value.agg #[.int .i64 0, .int .i64 0, .string ⟨#[]⟩]).cells (k - m)).toList := ⟨_, rfl⟩
        have hzl : zs.length = (k - m) * 3 := by rw [hzs]; exact zeros_len13 _
        have hcl : ∀ ty, (Builtin.clear_ #[47] ty #[.slice (some ⟨g, m * 3, none⟩) (k - m) (c - m)]).run Tryd.prog wr = .ok (.tuple #[]) (wr.setRow g (over (wcs ((l.take k).filter (fun x : Hq.Wt => !decide (x.sess = n))) ++ C0.drop (m * 3)) (m * 3) zs).toArray) := fun ty =>
          run_clear_part (P := Tryd.prog) wr 47 54 ty (Value.agg #[.int .i64 0, .int .i64 0, .string ⟨#[]⟩]) Tryd.underlying47 zero_run13 g (m * 3) (k - m) (c - m) zs (wcs ((l.take k).filter (fun x : Hq.Wt => !decide (x.sess = n))) ++ C0.drop (m * 3)) 54 (by omega) hzs.symm (by rw [hzs]; exact zeros_one13 _) H3.out.row (by rw [HL.out.2, hzl]; omega)
        have HE : Hid (m = (l.filter (fun x : Hq.Wt => !decide (x.sess = n))).length ∧ (wr.setRow g (over (wcs ((l.take k).filter (fun x : Hq.Wt => !decide (x.sess = n))) ++ C0.drop (m * 3)) (m * 3) zs).toArray).ownsRow 0 54 3 (.slice (some ⟨g, 0, none⟩) m c) m (wcs (l.filter (fun x : Hq.Wt => !decide (x.sess = n)))) ∧ w.grownBy (wr.setRow g (over (wcs ((l.take k).filter (fun x : Hq.Wt => !decide (x.sess = n))) ++ C0.drop (m * 3)) (m * 3) zs).toArray) (some g)) := by
          have hD := H3.out.row.rowed (over (wcs ((l.take k).filter (fun x : Hq.Wt => !decide (x.sess = n))) ++ C0.drop (m * 3)) (m * 3) zs)
          have e1 : (over (wcs ((l.take k).filter (fun x : Hq.Wt => !decide (x.sess = n))) ++ C0.drop (m * 3)) (m * 3) zs).take (m * 3) = wcs ((l.take k).filter (fun x : Hq.Wt => !decide (x.sess = n))) := by
            unfold over
            rw [← HL.out.1, List.take_left, List.append_assoc, List.take_left]
          have e2 : (over (wcs ((l.take k).filter (fun x : Hq.Wt => !decide (x.sess = n))) ++ C0.drop (m * 3)) (m * 3) zs).length = c * 3 := by rw [over_len (by rw [HL.out.2, hzl]; omega), HL.out.2]
          have hlen := H3.out.len
          have hwl := HL.out.1
          rw [HT.out] at hlen hwl
          refine ⟨hlen, ⟨hwl, Or.inr ⟨g, c, _, rfl, Nat.zero_le _, hD, by omega, H0.out.2.2.2.2.1, by simpa using e2, ?_⟩⟩, grownBy_trans H3.out.grown (rowed_grown wr g _)⟩
          have e3 := e1
          rw [HT.out] at e3
          simpa [HT.out] using e3
        clear hzs hzl
        obtain ⟨wy, hwy⟩ : ∃ z, z = wr.setRow g (over (wcs ((l.take k).filter (fun x : Hq.Wt => !decide (x.sess = n))) ++ C0.drop (m * 3)) (m * 3) zs).toArray := ⟨_, rfl⟩
        rw [← hwy] at hcl HE
        clear hwy
        go_wp2_with (at_builtin; refine wpList_clear_known wr rfl _ 47 rfl (.slice (some ⟨g, m * 3, none⟩) (k - m) (c - m)) rfl (hcl _) ?_)
        go_wp2
        go_ret
        exact ⟨m, rfl, HE.out.1, HE.out.2.1, HE.out.2.2⟩
end Go.Proofs.YtjejpkognjedpaaDoor
