/- What Drop does: slices.IndexFunc, slices.DeleteFunc by a session. -/
import Derived.Test.YtjejpkognjedpaaDoorWFireB13
namespace Go.Proofs.YtjejpkognjedpaaDoor
open Go.RowKit

set_option maxRecDepth 20000 in
set_option maxHeartbeats 1000000 in
theorem isOf_any13 (x : Hq.Wt) (n : Int) (sb : Nat) (w : World) (hc : w.cell? ⟨sb, 0, none⟩ = some (.int .i64 n)) :
    Calls Tryd.prog 26 #[.agg #[.int .i64 x.sess, .int .i64 x.kind, .string x.path], .pointer (some ⟨sb, 0, none⟩)] w fun e w' => e = .returned (.bool (decide (x.sess = n))) ∧ Below w.heap.size w w' := by
  have HB : Hid (Below w.heap.size w (w.alloc (.cells #[.int .i64 x.sess, .int .i64 x.kind, .string x.path] 54))) := (Below.refl _ w).alloc (Nat.le_refl _) _
  have hc2 : (w.alloc (.cells #[.int .i64 x.sess, .int .i64 x.kind, .string x.path] 54)).cell? ⟨sb, 0, none⟩ = some (.int .i64 n) := Below.kept HB.out hc
  clear hc
  go_enter Tryd.func26, Tryd.ntmps26
  by_cases h : x.sess = n
  · have hb : (x.sess == n) = true := by simp [h]
    have HP : Hid (decide (x.sess = n) = true) := (show decide (x.sess = n) = true by simp [h])
    clear h
    go_wp2
    go_ret
    exact ⟨by rw [HP.out]; rfl, HB.out⟩
  · have hb : (x.sess == n) = false := by simp [h]
    have HP : Hid (decide (x.sess = n) = false) := (show decide (x.sess = n) = false by simp [h])
    clear h
    go_wp2
    go_ret
    exact ⟨by rw [HP.out]; rfl, HB.out⟩

def InL (l : List Hq.Wt) (n : Int) (r : Int) : Prop := (r = -1 ∧ ∀ x ∈ l, x.sess ≠ n) ∨ ∃ k x, r = ((k : Nat) : Int) ∧ l[k]? = some x ∧ x.sess = n ∧ ∀ y ∈ l.take k, y.sess ≠ n
set_option maxRecDepth 20000 in
set_option maxHeartbeats 4000000 in
theorem index_any13 (g N c : Nat) (l : List Hq.Wt) (n : Int) (sb : Nat) (w : World) (h : w.ownsRow 0 54 3 (.slice (some ⟨g, 0, none⟩) N c) N (wcs l)) (hN : N = l.length) (hl : N ≤ 1000) (hc : w.cell? ⟨sb, 0, none⟩ = some (.int .i64 n)) :
    Calls Tryd.prog 39 #[.slice (some ⟨g, 0, none⟩) N c, (Value.func (.func 26) #[] #[.pointer (some ⟨sb, 0, none⟩)])] w fun e w' => ∃ r, e = .returned (.int .i64 r) ∧ InL l n r ∧ Below w.heap.size w w' := by
  have H0 : Hid (N = l.length ∧ (∀ w', Below w.heap.size w w' → w'.ownsRow 0 54 3 (.slice (some ⟨g, 0, none⟩) N c) N (wcs l) ∧ w'.cell? ⟨sb, 0, none⟩ = some (.int .i64 n))) := ⟨hN, fun w' hb => ⟨row_stays h fun k hk => hb.block k (h.lt k hk).2, Below.kept hb hc⟩⟩
  clear h hN hc
  go_enter Tryd.func39, Tryd.ntmps39
  go_wp2
  go_loopw [8] (fun i wx => ∃ k : Nat, k ≤ N ∧ i = .int .i64 (k : Int) ∧ Below w.heap.size w wx ∧ ∀ y ∈ l.take k, y.sess ≠ n) (fun i _ => N - (intOf i).toNat)
  case atStart => exact ⟨0, Nat.zero_le _, rfl, Below.refl _ _, fun y hy => by simp at hy⟩
  case round =>
    obtain ⟨k, hk, rfl, hb, hy⟩ := hrel
    have HW : Hid (Below w.heap.size w wr ∧ ∀ y ∈ l.take k, y.sess ≠ n) := ⟨hb, hy⟩
    clear hb hy
    by_cases hlt : k < N
    · have hlt' : (k : Int) < (N : Int) := by omega
      have hk0 : (0 : Int) ≤ (k : Int) := by omega
      have hwk : IntKind.wrap .i64 ((k : Int) + 1) = (k : Int) + 1 := by rw [IntKind.wrap_i64]; omega
      obtain ⟨x, hx⟩ : ∃ x, l[k]? = some x := ⟨l[k]'(by rw [← H0.out.1]; exact hlt), List.getElem?_eq_getElem _⟩
      have HX : Hid (l[k]? = some x) := hx
      obtain ⟨r0, r1, r2⟩ := row_at13 (H0.out.2 _ HW.out.1).1 hx
      clear hx
      go_wp2_with fail
      refine (isOf_any13 x n sb wr (H0.out.2 _ HW.out.1).2).mono ?_
      rintro e w2 ⟨rfl, hb2⟩
      have H2 : Hid (Below w.heap.size w w2) := HW.out.1.trans (hb2.mono HW.out.1.size)
      clear hb2 r0 r1 r2
      by_cases hs : x.sess = n
      · have hd : decide (x.sess = n) = true := by simp [hs]
        have HR : Hid (InL l n (k : Int)) := Or.inr ⟨k, x, rfl, HX.out, hs, HW.out.2⟩
        rw [hd]
        clear hs hd
        go_wp2
        go_ret
        exact ⟨_, rfl, HR.out, H2.out⟩
      · have hd : decide (x.sess = n) = false := by simp [hs]
        have HR : Hid (∀ y ∈ l.take (k + 1), y.sess ≠ n) := fun y hy => by
          rw [List.take_add_one, HX.out] at hy
          rcases List.mem_append.1 hy with hy | hy
          · exact HW.out.2 y hy
          · simp at hy
            rw [hy]
            exact hs
        rw [hd]
        clear hs hd
        go_wp2
        go_roundw
        case rel => exact ⟨k + 1, by omega, by go_num, H2.out, HR.out⟩
        case measure => simp [intOf]; omega
    · have hlt' : ¬ (k : Int) < (N : Int) := by omega
      have HR : Hid (InL l n (-1)) := Or.inl ⟨rfl, fun y hy => HW.out.2 y (by rw [List.take_of_length_le (by rw [← H0.out.1]; omega)]; exact hy)⟩
      go_wp2
      go_ret
      exact ⟨_, rfl, HR.out, HW.out.1⟩
end Go.Proofs.YtjejpkognjedpaaDoor
