/- The reference's Free. -/
import Derived.Test.YtadgjinlblloiaaDoorRefL17
namespace Go.Proofs.YtadgjinlblloiaaDoor
open Go.RowKit

theorem Lk.rest_snoc {s : Lk.St} {k : Nat} {x : Lk.Hd} (hx : s[k]? = some x) (who : Int) : Lk.rest (s.take (k + 1)) who = Lk.rest (s.take k) who ++ if x.who ≠ who then [x] else [] := by
  rw [List.take_add_one, hx]
  unfold Lk.rest
  rw [List.filter_append]
  by_cases h : x.who = who <;> simp [h]
def FreeP (w : World) (q : Nat) (s : Lk.St) (F : Nat → Prop) (who : Int) (e : Ending) (w' : World) : Prop := ∃ F', e = .returned (.int .i64 (Lk.free s who)) ∧ LRl w' q (Lk.rest s who) F' ∧ Moved w w' F F'
set_option maxRecDepth 20000 in
set_option maxHeartbeats 8000000 in
theorem refFree_any17 (q : Nat) (s : Lk.St) (F : Nat → Prop) (m : Nat) (who : Int) (w : World) (hL : LRl w q s F) (hf : Lk.Fine m s) (hm : m ≤ 1000) :
    Calls Tryd.prog 16 #[dptr q, .int .i64 who] w fun e w' => FreeP w q s F who e w' := by
  obtain ⟨v, h, rfl⟩ := hL
  obtain ⟨N, hN⟩ : ∃ N, N = s.length := ⟨_, rfl⟩
  have hN1 : N ≤ 1000 := by have := hf.len; omega
  have hr := h.row
  rw [← hN] at hr
  obtain ⟨a, c, rfl, _, ha⟩ := row_form hr
  have H0 : Hid (Ll17 w q s (.slice a N c) ∧ N = s.length ∧ (0 < N → ∃ g, a = some ⟨g, 0, none⟩)) := ⟨h, hN, ha⟩
  clear h hf hm hN hr ha
  unfold dptr
  go_enter Tryd.func16, Tryd.ntmps16
  go_wp2
  go_loopw [5, 6] (fun u i wx => ∃ k : Nat, k ≤ N ∧ i = .int .i64 (k : Int) ∧ Below w.heap.size w wx ∧ wx.ownsRow w.heap.size 60 2 u (Lk.rest (s.take k) who).length (lkcs (Lk.rest (s.take k) who))) (fun _ i _ => N - (intOf i).toNat)
  case atStart => exact ⟨0, Nat.zero_le _, rfl, Below.refl _ _, World.ownsRow_nil _ _ _ _⟩
  case round =>
    obtain ⟨k, hk, rfl, hb, hu⟩ := hrel
    have HW : Hid (Below w.heap.size w wr ∧ wr.ownsRow w.heap.size 60 2 u5 (Lk.rest (s.take k) who).length (lkcs (Lk.rest (s.take k) who))) := ⟨hb, hu⟩
    obtain ⟨ua, uc, hue, _, _⟩ := row_form hu
    obtain ⟨E, hE⟩ : ∃ E, E = (Lk.rest (s.take k) who).length := ⟨_, rfl⟩
    rw [← hE] at hue
    subst hue
    have hE1 : E ≤ 1000 := by
      rw [hE]
      have h1 := List.length_filter_le (fun x : Lk.Hd => decide (x.who ≠ who)) (s.take k)
      have h2 : (Lk.rest (s.take k) who).length ≤ (s.take k).length := h1
      rw [List.length_take] at h2
      omega
    have HE : Hid (E = (Lk.rest (s.take k) who).length) := hE
    clear hb hu hE
    have c0 : wr.cell? ⟨q, 0, none⟩ = some (.slice a N c) := (H0.out.1.later HW.out.1).blk.cell 0
    by_cases hlt : k < N
    · have hlt' : (k : Int) < (N : Int) := by omega
      have hk0 : (0 : Int) ≤ (k : Int) := by omega
      have hwk : IntKind.wrap .i64 ((k : Int) + 1) = (k : Int) + 1 := by rw [IntKind.wrap_i64]; omega
      obtain ⟨g, hg⟩ := H0.out.2.2 (by omega)
      subst hg
      obtain ⟨x, hx⟩ : ∃ x, s[k]? = some x := ⟨s[k]'(by rw [← H0.out.2.1]; exact hlt), List.getElem?_eq_getElem _⟩
      have HX : Hid (s[k]? = some x) := hx
      have hr := (H0.out.1.later HW.out.1).row
      rw [← H0.out.2.1] at hr
      obtain ⟨r0, r1⟩ := row_at17 hr hx
      clear hx hr
      by_cases hid : x.who = who
      · have hidb : (x.who != who) = false := by simp [hid]
        have HN : Hid (Lk.rest (s.take (k + 1)) who = (Lk.rest (s.take k) who)) := (show Lk.rest (s.take (k + 1)) who = (Lk.rest (s.take k) who) by rw [Lk.rest_snoc HX.out, if_neg (fun e => e hid), List.append_nil])
        clear hid
        go_wp2
        go_roundw
        case rel => exact ⟨k + 1, by omega, by go_num, HW.out.1, by rw [HN.out]; exact HW.out.2⟩
        case measure => simp [intOf]; omega
      · have hidb : (x.who != who) = true := by simp [hid]
        have HN : Hid (Lk.rest (s.take (k + 1)) who = (Lk.rest (s.take k) who) ++ [x]) := (show Lk.rest (s.take (k + 1)) who = (Lk.rest (s.take k) who) ++ [x] by rw [Lk.rest_snoc HX.out, if_pos hid])
        clear hid
        obtain ⟨sb, hsb⟩ : ∃ z, z = wr.heap.size := ⟨_, rfl⟩
        have H5 : Hid (Below w.heap.size w (wr.alloc (.cells #[.string x.path, .int .i64 x.who] 60)) ∧ (wr.alloc (.cells #[.string x.path, .int .i64 x.who] 60)).ownsRow w.heap.size 60 2 (.slice ua E uc) (Lk.rest (s.take k) who).length (lkcs (Lk.rest (s.take k) who)) ∧ Cb (wr.alloc (.cells #[.string x.path, .int .i64 x.who] 60)) sb (lkc x) 60) := by
          rw [hsb]
          exact ⟨HW.out.1.alloc HW.out.1.size _, HW.out.2.alloc _, Cb.made wr (lkc x) _⟩
        go_wp2_with (at_builtin; rw [← hsb]; refine wpList_lkc17 infoHr Tryd.underlying34 rfl _ _ rfl w.heap.size (.slice ua E uc) (.slice (some ⟨sb, 0, none⟩) 1 1) (Lk.rest (s.take k) who) [x] (wr.alloc (.cells #[.string x.path, .int .i64 x.who] 60)) rfl rfl H5.out.2.1 H5.out.1.size (Slk.one H5.out.2.2) (by rw [← HE.out]; simp only [List.length_singleton]; omega) ?_)
        clear hsb r0 r1 c0
        generalize (wr.alloc (.cells #[.string x.path, .int .i64 x.who] 60)) = w5 at *
        intro v6 w6 hr6 hb6 hg6 hv6
        have H6 : Hid (Below w.heap.size w w6 ∧ w6.ownsRow w.heap.size 60 2 v6 ((Lk.rest (s.take k) who) ++ [x]).length (lkcs ((Lk.rest (s.take k) who) ++ [x]))) := ⟨H5.out.1.trans (hb6.mono (Nat.le_refl _)), by rw [List.length_append]; exact hr6⟩
        obtain ⟨a6, c6, e6, j1, j2⟩ := row_form H6.out.2
        obtain ⟨E6, hE6⟩ : ∃ E, E = ((Lk.rest (s.take k) who) ++ [x]).length := ⟨_, rfl⟩
        rw [← hE6] at e6
        subst e6
        clear hr6 hb6 hg6 hv6 j1 j2 hE6
        go_wp2
        go_roundw
        case rel => exact ⟨k + 1, by omega, by go_num, H6.out.1, by rw [HN.out]; exact H6.out.2⟩
        case measure => simp [intOf]; omega
    · have hlt' : ¬ (k : Int) < (N : Int) := by omega
      have HR : Hid ((Lk.rest (s.take k) who) = Lk.rest s who) := (show (Lk.rest (s.take k) who) = Lk.rest s who by rw [List.take_of_length_le (by rw [← H0.out.2.1]; omega)])
      obtain ⟨f, hf⟩ : ∃ f, f = Lk.free s who := ⟨_, rfl⟩
      have HF : Hid (f = Lk.free s who) := hf
      have hwr : IntKind.wrap .i64 ((N : Int) - (E : Int)) = f := by
        have h1 : f = (N : Int) - (E : Int) := by
          rw [hf, HE.out, HR.out, H0.out.2.1]
          rfl
        rw [h1, IntKind.wrap_i64]
        omega
      have f0 := (H0.out.1.later HW.out.1).blk.free 0
      have HP : Hid (Ll17 (wr.setCell ⟨q, 0, none⟩ (.slice ua E uc)) q (Lk.rest s who) (.slice ua E uc) ∧ Moved w (wr.setCell ⟨q, 0, none⟩ (.slice ua E uc)) (Fl17 (.slice a N c) q) (Fl17 (.slice ua E uc) q)) := H0.out.1.put HW.out.1 (by rw [← HR.out]; exact HW.out.2)
      clear hf
      go_wp2
      go_ret
      exact ⟨Fl17 (.slice ua E uc) q, by rw [← HF.out]; rfl, ⟨_, HP.out.1, rfl⟩, HP.out.2⟩
end Go.Proofs.YtadgjinlblloiaaDoor
