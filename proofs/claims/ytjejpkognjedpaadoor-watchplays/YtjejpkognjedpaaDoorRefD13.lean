/- The reference's Drop and Fire. -/
import Derived.Test.YtjejpkognjedpaaDoorRefR13
namespace Go.Proofs.YtjejpkognjedpaaDoor
open Go.RowKit

set_option maxRecDepth 20000 in
set_option maxHeartbeats 4000000 in
theorem refDrop_any13 (q : Nat) (s : Hq.St) (F : Nat → Prop) (n : Int) (w : World) (hL : LRf w q s F) (hf : Hq.Fine s) :
    Calls Tryd.prog 17 #[dptr q, .int .i64 n] w fun e w' => ∃ F', e = .returned (.int .i64 ((s.l.length : Int) - ((Hq.drop s n).l.length : Int))) ∧ LRf w' q (Hq.drop s n) F' ∧ Moved w w' F F' := by
  obtain ⟨v, hl, rfl⟩ := hL
  obtain ⟨N, hN⟩ : ∃ N, N = s.l.length := ⟨_, rfl⟩
  have hr := hl.row
  rw [← hN] at hr ⊢
  obtain ⟨a, c, rfl, hNc, hj⟩ := row_form hr
  have hN1 : N ≤ 1000 := by rw [hN]; exact hf.len
  obtain ⟨M, hM⟩ : ∃ M, M = (Hq.drop s n).l.length := ⟨_, rfl⟩
  rw [← hM]
  have hMN : M ≤ N := by rw [hM, hN]; exact List.length_filter_le _ _
  have H0 : Hid (Rr13 w q s (.slice a N c) ∧ N = s.l.length ∧ w.ownsRow 0 63 3 (.slice a N c) N (evs13 s.l) ∧ M = (Hq.drop s n).l.length ∧ (0 < N → ∃ g, a = some ⟨g, 0, none⟩)) := ⟨hl, hN, hr, hM, hj⟩
  clear hl hN hr hj hM hf
  unfold dptr
  go_enter Tryd.func17, Tryd.ntmps17
  go_wp2
  go_loopw [5, 6] (fun u i wx => ∃ k : Nat, k ≤ N ∧ i = .int .i64 (k : Int) ∧ Below w.heap.size w wx ∧ wx.ownsRow w.heap.size 63 3 u ((s.l.take k).filter (fun x : Hq.Wt => !decide (x.sess = n))).length (evs13 ((s.l.take k).filter (fun x : Hq.Wt => !decide (x.sess = n))))) (fun _ i _ => N - (intOf i).toNat)
  case atStart => exact ⟨0, Nat.zero_le _, rfl, Below.refl _ _, World.ownsRow_nil _ _ _ _⟩
  case round =>
    obtain ⟨k, hk, rfl, hb, hu⟩ := hrel
    obtain ⟨E, hE⟩ : ∃ E, E = ((s.l.take k).filter (fun x : Hq.Wt => !decide (x.sess = n))).length := ⟨_, rfl⟩
    have hEk : E ≤ k := by
      rw [hE]
      have e1 := List.length_filter_le (fun x : Hq.Wt => !decide (x.sess = n)) (s.l.take k)
      rw [List.length_take] at e1
      omega
    obtain ⟨ua, uc, hu5, j1, j2⟩ := row_form hu
    rw [← hE] at hu5
    subst hu5
    have HW : Hid (Below w.heap.size w wr ∧ wr.ownsRow w.heap.size 63 3 (.slice ua E uc) ((s.l.take k).filter (fun x : Hq.Wt => !decide (x.sess = n))).length (evs13 ((s.l.take k).filter (fun x : Hq.Wt => !decide (x.sess = n)))) ∧ E = ((s.l.take k).filter (fun x : Hq.Wt => !decide (x.sess = n))).length) := ⟨hb, hu, hE⟩
    clear hb hu hE j1 j2
    have c1 : wr.cell? ⟨q, 1, none⟩ = some (.slice a N c) := (H0.out.1.later HW.out.1).blk.cell 1
    by_cases hlt : k < N
    · have hlt' : (k : Int) < (N : Int) := by omega
      have hk0 : (0 : Int) ≤ (k : Int) := by omega
      have hwk : IntKind.wrap .i64 ((k : Int) + 1) = (k : Int) + 1 := by rw [IntKind.wrap_i64]; omega
      obtain ⟨g, hg⟩ := H0.out.2.2.2.2 (by omega)
      subst hg
      obtain ⟨x, hx⟩ : ∃ x, s.l[k]? = some x := ⟨s.l[k]'(by rw [← H0.out.2.1]; exact hlt), List.getElem?_eq_getElem _⟩
      have HX : Hid (s.l[k]? = some x) := hx
      have hrw := (H0.out.1.later HW.out.1).row
      rw [← H0.out.2.1] at hrw
      obtain ⟨r0, r1, r2⟩ := rrow_at13 hrw hx
      clear hx hrw
      by_cases hs : x.sess = n
      · have hsb : (x.sess != n) = false := by simp [hs]
        have HF : Hid ((s.l.take (k + 1)).filter (fun x : Hq.Wt => !decide (x.sess = n)) = (s.l.take k).filter (fun x : Hq.Wt => !decide (x.sess = n))) := (show _ = _ by rw [filter_snoc13 HX.out]; simp [hs])
        clear hs
        go_wp2
        go_roundw
        case rel => exact ⟨k + 1, by omega, by go_num, HW.out.1, by rw [HF.out]; exact HW.out.2.1⟩
        case measure => simp [intOf]; omega
      · have hsb : (x.sess != n) = true := by simp [hs]
        have HF : Hid ((s.l.take (k + 1)).filter (fun x : Hq.Wt => !decide (x.sess = n)) = (s.l.take k).filter (fun x : Hq.Wt => !decide (x.sess = n)) ++ [x]) := (show _ = _ by rw [filter_snoc13 HX.out]; simp [hs])
        clear hs
        obtain ⟨sb, hsb2⟩ : ∃ z, z = wr.heap.size := ⟨_, rfl⟩
        have H6 : Hid (Below w.heap.size w (wr.alloc (.cells #[.int .i64 x.sess, .string x.path, .int .i64 x.kind] 63)) ∧ (wr.alloc (.cells #[.int .i64 x.sess, .string x.path, .int .i64 x.kind] 63)).ownsRow w.heap.size 63 3 (.slice ua E uc) ((s.l.take k).filter (fun x : Hq.Wt => !decide (x.sess = n))).length (evs13 ((s.l.take k).filter (fun x : Hq.Wt => !decide (x.sess = n)))) ∧ Sev13 (wr.alloc (.cells #[.int .i64 x.sess, .string x.path, .int .i64 x.kind] 63)) (.slice (some ⟨sb, 0, none⟩) 1 1) [x]) := by
          rw [hsb2]
          exact ⟨HW.out.1.alloc HW.out.1.size _, HW.out.2.1.alloc _, Sev13.one (Cb.made wr (ev x) _)⟩
        go_wp2_with (at_builtin; rw [← hsb2]; refine wpList_evr13 rfl _ _ rfl w.heap.size (.slice ua E uc) (.slice (some ⟨sb, 0, none⟩) 1 1) ((s.l.take k).filter (fun x : Hq.Wt => !decide (x.sess = n))) [x] (wr.alloc (.cells #[.int .i64 x.sess, .string x.path, .int .i64 x.kind] 63)) rfl rfl H6.out.2.1 H6.out.1.size H6.out.2.2 (by have := HW.out.2.2; simp only [List.length_singleton]; omega) ?_)
        clear hsb2 r0 r1 r2 c1
        generalize (wr.alloc (.cells #[.int .i64 x.sess, .string x.path, .int .i64 x.kind] 63)) = w5 at *
        intro v6 w6 hr6 hb6 hg6
        have hr7 : w6.ownsRow w.heap.size 63 3 v6 ((s.l.take (k + 1)).filter (fun x : Hq.Wt => !decide (x.sess = n))).length (evs13 ((s.l.take (k + 1)).filter (fun x : Hq.Wt => !decide (x.sess = n)))) := by rw [HF.out]; simpa using hr6
        have H7 : Hid (Below w.heap.size w w6 ∧ w6.ownsRow w.heap.size 63 3 v6 ((s.l.take (k + 1)).filter (fun x : Hq.Wt => !decide (x.sess = n))).length (evs13 ((s.l.take (k + 1)).filter (fun x : Hq.Wt => !decide (x.sess = n))))) := ⟨H6.out.1.trans (hb6.mono (Nat.le_refl _)), hr7⟩
        obtain ⟨a6, c6, e6, j1, j2⟩ := row_form hr7
        subst e6
        clear hr6 hr7 hb6 hg6 j1 j2
        go_wp2
        go_roundw
        case rel => exact ⟨k + 1, by omega, by go_num, H7.out.1, H7.out.2⟩
        case measure => simp [intOf]; omega
    · have hlt' : ¬ (k : Int) < (N : Int) := by omega
      obtain rfl : k = N := by omega
      have HT : Hid (s.l.take k = s.l) := List.take_of_length_le (by rw [← H0.out.2.1]; exact Nat.le_refl _)
      have hEM : E = M := by rw [HW.out.2.2, HT.out, H0.out.2.2.2.1]; rfl
      clear hMN
      subst hEM
      have f1 : wr.frozen? ⟨q, 1, none⟩ = false := (H0.out.1.later HW.out.1).blk.free 1
      have hw1 : IntKind.wrap .i64 ((k : Int) - (E : Int)) = (k : Int) - (E : Int) := by rw [IntKind.wrap_i64]; omega
      have HE : Hid (LRf (wr.setCell ⟨q, 1, none⟩ (.slice ua E uc)) q (Hq.drop s n) (Fw13 (.slice ua E uc) q) ∧ Moved w (wr.setCell ⟨q, 1, none⟩ (.slice ua E uc)) (Fw13 (.slice a k c) q) (Fw13 (.slice ua E uc) q)) := by
        have e1 := HW.out.2.1
        rw [HT.out] at e1
        exact H0.out.1.put HW.out.1 e1
      go_wp2
      go_ret
      first | exact ⟨_, rfl, HE.out.1, HE.out.2⟩ | exact ⟨rfl, _, HE.out.1, HE.out.2⟩
end Go.Proofs.YtjejpkognjedpaaDoor
