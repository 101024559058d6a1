/- The order of watches: what inOrder tells, and what slices.BinarySearchFunc finds by it. -/
import Derived.Test.YtjejpkognjedpaaDoorWt13
namespace Go.Proofs.YtjejpkognjedpaaDoor
open Go.RowKit

theorem cmp_less13 : ∀ (a b : List UInt8), Lib.compareBytes a b < 0 ↔ Op.bytesLess a b = true
  | [], [] => by simp [Lib.compareBytes, Op.bytesLess]
  | [], _ :: _ => by simp [Lib.compareBytes, Op.bytesLess]
  | _ :: _, [] => by simp [Lib.compareBytes, Op.bytesLess]
  | a :: x, b :: y => by
    have ih := cmp_less13 x y
    unfold Lib.compareBytes
    simp only [Op.bytesLess, Bool.or_eq_true, decide_eq_true_eq, Bool.and_eq_true, beq_iff_eq]
    by_cases h1 : a < b
    · rw [if_pos h1]
      simp [h1]
    · rw [if_neg h1]
      by_cases h2 : b < a
      · rw [if_pos h2]
        constructor
        · intro h
          exact absurd h (by decide)
        · rintro (h | ⟨rfl, _⟩)
          · exact absurd h h1
          · exact absurd h2 (UInt8.lt_irrefl _)
      · rw [if_neg h2, ih]
        have e : a = b := UInt8.le_antisymm (UInt8.not_lt.1 h2) (UInt8.not_lt.1 h1)
        simp [e]
theorem cmp_zero13 : ∀ (a b : List UInt8), Lib.compareBytes a b = 0 ↔ a = b
  | [], [] => by simp [Lib.compareBytes]
  | [], _ :: _ => by simp [Lib.compareBytes]
  | _ :: _, [] => by simp [Lib.compareBytes]
  | a :: x, b :: y => by
    have ih := cmp_zero13 x y
    unfold Lib.compareBytes
    by_cases h1 : a < b
    · rw [if_pos h1]
      have hne : a ≠ b := fun e => UInt8.lt_irrefl b (e ▸ h1)
      simp [hne]
    · rw [if_neg h1]
      by_cases h2 : b < a
      · rw [if_pos h2]
        have hne : a ≠ b := fun e => UInt8.lt_irrefl b (by rw [e] at h2; exact h2)
        simp [hne]
      · rw [if_neg h2, ih]
        have e : a = b := UInt8.le_antisymm (UInt8.not_lt.1 h2) (UInt8.not_lt.1 h1)
        simp [e]
/-- What inOrder tells. -/
def cmpW (a b : Hq.Wt) : Int := or3 (cmpZ a.sess b.sess) (cmpZ a.kind b.kind) (Lib.compareBytes a.path.data.toList b.path.data.toList)
theorem cmpZ_zero {a b : Int} : cmpZ a b = 0 ↔ a = b := by
  unfold cmpZ
  split
  · constructor
    · intro h
      exact absurd h (by decide)
    · intro h
      omega
  · split
    · constructor
      · intro h
        exact absurd h (by decide)
      · intro h
        omega
    · constructor
      · intro h
        omega
      · intro h
        rfl
theorem cmpZ_neg {a b : Int} : cmpZ a b < 0 ↔ a < b := by
  unfold cmpZ
  split
  · rename_i h
    exact ⟨fun _ => h, fun _ => by decide⟩
  · rename_i h
    split
    · exact ⟨fun h => absurd h (by decide), fun k => absurd k h⟩
    · exact ⟨fun h => absurd h (by decide), fun k => absurd k h⟩
theorem cmpW_neg (a b : Hq.Wt) : decide (cmpW a b < 0) = Hq.lt a b := by
  unfold cmpW or3 Hq.lt
  by_cases h1 : a.sess = b.sess
  · rw [if_neg (by simpa using cmpZ_zero.2 h1), if_pos h1]
    by_cases h2 : a.kind = b.kind
    · rw [if_neg (by simpa using cmpZ_zero.2 h2), if_pos h2]
      unfold Kq.lt
      rw [ByteArray.toList_eq, ByteArray.toList_eq]
      have h := cmp_less13 a.path.data.toList b.path.data.toList
      cases e : Op.bytesLess a.path.data.toList b.path.data.toList with
      | true => exact decide_eq_true (h.2 e)
      | false => exact decide_eq_false (fun k => by rw [h.1 k] at e; cases e)
    · rw [if_pos (fun e => h2 (cmpZ_zero.1 e)), if_neg h2]
      exact decide_eq_decide.2 cmpZ_neg
  · rw [if_pos (fun e => h1 (cmpZ_zero.1 e)), if_neg h1]
    exact decide_eq_decide.2 cmpZ_neg
theorem cmpW_zero (a b : Hq.Wt) : cmpW a b = 0 ↔ a = b := by
  unfold cmpW or3
  constructor
  · intro h
    by_cases h1 : a.sess = b.sess
    · rw [if_neg (by simpa using cmpZ_zero.2 h1)] at h
      by_cases h2 : a.kind = b.kind
      · rw [if_neg (by simpa using cmpZ_zero.2 h2)] at h
        have h3 := (cmp_zero13 _ _).1 h
        have h4 : a.path = b.path := ByteArray.ext (Array.toList_inj.1 h3)
        cases a
        cases b
        simp_all
      · rw [if_pos (fun e => h2 (cmpZ_zero.1 e))] at h
        exact absurd (cmpZ_zero.1 h) h2
    · rw [if_pos (fun e => h1 (cmpZ_zero.1 e))] at h
      exact absurd (cmpZ_zero.1 h) h1
  · rintro rfl
    rw [if_neg (by simpa using cmpZ_zero.2 rfl), if_neg (by simpa using cmpZ_zero.2 rfl)]
    exact (cmp_zero13 _ _).2 rfl

set_option maxRecDepth 20000 in
set_option maxHeartbeats 4000000 in
theorem order_any13 (x y : Hq.Wt) (w : World) : Calls Tryd.prog 20 #[wv x, wv y] w fun e w' => e = .returned (.int .i64 (cmpW x y)) ∧ Below w.heap.size w w' := by
  obtain ⟨a, ha⟩ : ∃ a, a = w.heap.size := ⟨_, rfl⟩
  obtain ⟨b, hb⟩ : ∃ b, b = w.heap.size + 1 := ⟨_, rfl⟩
  have H0 : Hid ((fun w' : World => w'.cell? ⟨a, 0, none⟩ = some (.int .i64 x.sess) ∧ w'.cell? ⟨a, 1, none⟩ = some (.int .i64 x.kind) ∧ w'.cell? ⟨a, 2, none⟩ = some (.string x.path) ∧ w'.cell? ⟨b, 0, none⟩ = some (.int .i64 y.sess) ∧ w'.cell? ⟨b, 1, none⟩ = some (.int .i64 y.kind) ∧ w'.cell? ⟨b, 2, none⟩ = some (.string y.path)) ((w.alloc (.cells #[.int .i64 x.sess, .int .i64 x.kind, .string x.path] 54)).alloc (.cells #[.int .i64 y.sess, .int .i64 y.kind, .string y.path] 54)) ∧ Below w.heap.size w ((w.alloc (.cells #[.int .i64 x.sess, .int .i64 x.kind, .string x.path] 54)).alloc (.cells #[.int .i64 y.sess, .int .i64 y.kind, .string y.path] 54))) := by
    have h1 := (Below.refl _ w).alloc (Nat.le_refl _) (.cells #[.int .i64 x.sess, .int .i64 x.kind, .string x.path] 54)
    have h2 := (Below.refl _ (w.alloc (.cells #[.int .i64 x.sess, .int .i64 x.kind, .string x.path] 54))).alloc (Nat.le_refl _) (.cells #[.int .i64 y.sess, .int .i64 y.kind, .string y.path] 54)
    have hs1 : (w.alloc (.cells #[.int .i64 x.sess, .int .i64 x.kind, .string x.path] 54)).heap.size = w.heap.size + 1 := World.size_alloc _ _
    have hc1 : Cb (w.alloc (.cells #[.int .i64 x.sess, .int .i64 x.kind, .string x.path] 54)) w.heap.size (wc x) 54 := Cb.made w _ _
    have hc2 : Cb ((w.alloc (.cells #[.int .i64 x.sess, .int .i64 x.kind, .string x.path] 54)).alloc (.cells #[.int .i64 y.sess, .int .i64 y.kind, .string y.path] 54)) (w.alloc (.cells #[.int .i64 x.sess, .int .i64 x.kind, .string x.path] 54)).heap.size (wc y) 54 := Cb.made (w.alloc (.cells #[.int .i64 x.sess, .int .i64 x.kind, .string x.path] 54)) _ _
    rw [hs1] at hc2
    have hc3 := hc1.below h2
    rw [ha, hb]
    exact ⟨⟨hc3.cell 0, hc3.cell 1, hc3.cell 2, hc2.cell 0, hc2.cell 1, hc2.cell 2⟩, h1.trans (h2.mono h1.size)⟩
  obtain ⟨z1, hz1⟩ : ∃ z, z = cmpZ x.sess y.sess := ⟨_, rfl⟩
  obtain ⟨z2, hz2⟩ : ∃ z, z = cmpZ x.kind y.kind := ⟨_, rfl⟩
  obtain ⟨z3, hz3⟩ : ∃ z, z = Lib.compareBytes x.path.data.toList y.path.data.toList := ⟨_, rfl⟩
  have HZ : Hid (z1 = cmpZ x.sess y.sess ∧ z2 = cmpZ x.kind y.kind ∧ z3 = Lib.compareBytes x.path.data.toList y.path.data.toList ∧ cmpW x y = or3 z1 z2 z3) := ⟨hz1, hz2, hz3, by rw [hz1, hz2, hz3]; rfl⟩
  clear hz1 hz2 hz3
  unfold wv
  go_enter Tryd.func20, Tryd.ntmps20
  go_upto_region 1 with fail
  rw [← hb, ← ha]
  clear hb ha
  generalize ((w.alloc (.cells #[.int .i64 x.sess, .int .i64 x.kind, .string x.path] 54)).alloc (.cells #[.int .i64 y.sess, .int .i64 y.kind, .string y.path] 54)) = w0 at *
  refine wp_region_held_drew (S := fun w' => w'.cell? ⟨a, 0, none⟩ = some (.int .i64 x.sess) ∧ w'.cell? ⟨a, 1, none⟩ = some (.int .i64 x.kind) ∧ w'.cell? ⟨a, 2, none⟩ = some (.string x.path) ∧ w'.cell? ⟨b, 0, none⟩ = some (.int .i64 y.sess) ∧ w'.cell? ⟨b, 1, none⟩ = some (.int .i64 y.kind) ∧ w'.cell? ⟨b, 2, none⟩ = some (.string y.path)) (by kernel_rfl) H0.out.1 (fun _ => ?_)
  have H1 : Hid ((fun w' : World => w'.cell? ⟨a, 0, none⟩ = some (.int .i64 x.sess) ∧ w'.cell? ⟨a, 1, none⟩ = some (.int .i64 x.kind) ∧ w'.cell? ⟨a, 2, none⟩ = some (.string x.path) ∧ w'.cell? ⟨b, 0, none⟩ = some (.int .i64 y.sess) ∧ w'.cell? ⟨b, 1, none⟩ = some (.int .i64 y.kind) ∧ w'.cell? ⟨b, 2, none⟩ = some (.string y.path)) w0.drew ∧ Below w.heap.size w w0.drew) := ⟨H0.out.1, H0.out.2.drew⟩
  clear H0
  generalize w0.drew = wX at *
  refine' take_at (i := 0) (d := 5) (v := _) rfl rfl (by kernel_rfl) (by kernel_rfl) (by kernel_rfl) (fun _ _ _ h => h) (Or.inl ⟨by rfl, ?h0⟩) (H1.out.1) ?_
  case h0 =>
    intro w hSw
    obtain ⟨s1, s2, s3, s4, s5, s6⟩ := hSw
    go_simp
    with_reducible rfl
  simp only [List.setIfInBounds_toArray, List.set_cons_zero, List.set_cons_succ]
  refine' take_at (i := 1) (d := 6) (v := _) rfl rfl (by kernel_rfl) (by kernel_rfl) (by kernel_rfl) (fun _ _ _ h => h) (Or.inl ⟨by rfl, ?h1⟩) (H1.out.1) ?_
  case h1 =>
    intro w hSw
    obtain ⟨s1, s2, s3, s4, s5, s6⟩ := hSw
    go_simp
    with_reducible rfl
  simp only [List.setIfInBounds_toArray, List.set_cons_zero, List.set_cons_succ]
  refine' take_at (i := 2) (d := 7) (v := _) rfl rfl (by kernel_rfl) (by kernel_rfl) (by kernel_rfl) (fun _ _ _ h => h) (Or.inl ⟨by rfl, ?h2⟩) (H1.out.1) ?_
  case h2 =>
    intro w hSw
    obtain ⟨s1, s2, s3, s4, s5, s6⟩ := hSw
    go_simp
    with_reducible rfl
  simp only [List.setIfInBounds_toArray, List.set_cons_zero, List.set_cons_succ]
  refine' take_at (i := 3) (d := 8) (v := _) rfl rfl (by kernel_rfl) (by kernel_rfl) (by kernel_rfl) (fun _ _ _ h => h) (Or.inl ⟨by rfl, ?h3⟩) (H1.out.1) ?_
  case h3 =>
    intro w hSw
    obtain ⟨s1, s2, s3, s4, s5, s6⟩ := hSw
    go_simp
    with_reducible rfl
  simp only [List.setIfInBounds_toArray, List.set_cons_zero, List.set_cons_succ]
  refine' take_at (i := 5) (d := 10) (v := _) rfl rfl (by kernel_rfl) (by kernel_rfl) (by kernel_rfl) (fun _ _ _ h => h) (Or.inl ⟨by rfl, ?h5⟩) (H1.out.1) ?_
  case h5 =>
    intro w hSw
    obtain ⟨s1, s2, s3, s4, s5, s6⟩ := hSw
    go_simp
    with_reducible rfl
  simp only [List.setIfInBounds_toArray, List.set_cons_zero, List.set_cons_succ]
  refine' take_at (i := 6) (d := 11) (v := _) rfl rfl (by kernel_rfl) (by kernel_rfl) (by kernel_rfl) (fun _ _ _ h => h) (Or.inl ⟨by rfl, ?h6⟩) (H1.out.1) ?_
  case h6 =>
    intro w hSw
    obtain ⟨s1, s2, s3, s4, s5, s6⟩ := hSw
    go_simp
    with_reducible rfl
  simp only [List.setIfInBounds_toArray, List.set_cons_zero, List.set_cons_succ]
  refine' take_at (i := 7) (d := 12) (v := _) rfl rfl (by kernel_rfl) (by kernel_rfl) (by kernel_rfl) (fun _ _ _ h => h) (Or.inl ⟨by rfl, ?h7⟩) (H1.out.1) ?_
  case h7 =>
    intro w hSw
    obtain ⟨s1, s2, s3, s4, s5, s6⟩ := hSw
    go_simp
    with_reducible rfl
  simp only [List.setIfInBounds_toArray, List.set_cons_zero, List.set_cons_succ]
  refine' take_at (i := 8) (d := 13) (v := _) rfl rfl (by kernel_rfl) (by kernel_rfl) (by kernel_rfl) (fun _ _ _ h => h) (Or.inl ⟨by rfl, ?h8⟩) (H1.out.1) ?_
  case h8 =>
    intro w hSw
    obtain ⟨s1, s2, s3, s4, s5, s6⟩ := hSw
    go_simp
    with_reducible rfl
  simp only [List.setIfInBounds_toArray, List.set_cons_zero, List.set_cons_succ]
  refine' take_at (i := 10) (d := 15) (v := _) rfl rfl (by kernel_rfl) (by kernel_rfl) (by kernel_rfl) (fun _ _ _ h => h) (Or.inl ⟨by rfl, ?h10⟩) (H1.out.1) ?_
  case h10 =>
    intro w hSw
    obtain ⟨s1, s2, s3, s4, s5, s6⟩ := hSw
    go_simp
    with_reducible rfl
  simp only [List.setIfInBounds_toArray, List.set_cons_zero, List.set_cons_succ]
  refine' take_at (i := 11) (d := 16) (v := _) rfl rfl (by kernel_rfl) (by kernel_rfl) (by kernel_rfl) (fun _ _ _ h => h) (Or.inl ⟨by rfl, ?h11⟩) (H1.out.1) ?_
  case h11 =>
    intro w hSw
    obtain ⟨s1, s2, s3, s4, s5, s6⟩ := hSw
    go_simp
    with_reducible rfl
  simp only [List.setIfInBounds_toArray, List.set_cons_zero, List.set_cons_succ]
  refine' take_at (i := 12) (d := 17) (v := _) rfl rfl (by kernel_rfl) (by kernel_rfl) (by kernel_rfl) (fun _ _ _ h => h) (Or.inl ⟨by rfl, ?h12⟩) (H1.out.1) ?_
  case h12 =>
    intro w hSw
    obtain ⟨s1, s2, s3, s4, s5, s6⟩ := hSw
    go_simp
    with_reducible rfl
  simp only [List.setIfInBounds_toArray, List.set_cons_zero, List.set_cons_succ]
  refine' take_at (i := 13) (d := 18) (v := _) rfl rfl (by kernel_rfl) (by kernel_rfl) (by kernel_rfl) (fun _ _ _ h => h) (Or.inl ⟨by rfl, ?h13⟩) (H1.out.1) ?_
  case h13 =>
    intro w hSw
    obtain ⟨s1, s2, s3, s4, s5, s6⟩ := hSw
    go_simp
    with_reducible rfl
  simp only [List.setIfInBounds_toArray, List.set_cons_zero, List.set_cons_succ]
  refine wpAnyH_ready (rs := [4]) (by kernel_rfl) (by simp) ?_
  refine AllReadyH.cons (o := _) rfl (fun KQ hKQ => ?_) AllReadyH.nil
  go_simp
  refine (cmpL_any13 _ _ _).mono ?_
  rintro e w' ⟨rfl, hw⟩
  rw [hw, ← HZ.out.1]
  clear hw w'
  refine hKQ.out _ _ H1.out.1 (fun _ => ?_)
  clear hKQ KQ
  refine wpAnyH_ready (rs := [9]) (by kernel_rfl) (by simp) ?_
  refine AllReadyH.cons (o := _) rfl (fun KQ hKQ => ?_) AllReadyH.nil
  go_simp
  refine (cmpI_any13 _ _ _).mono ?_
  rintro e w' ⟨rfl, hw⟩
  rw [hw, ← HZ.out.2.1]
  clear hw w'
  refine hKQ.out _ _ H1.out.1 (fun _ => ?_)
  clear hKQ KQ
  refine wpAnyH_ready (rs := [14]) (by kernel_rfl) (by simp) ?_
  refine AllReadyH.cons (o := _) rfl (fun KQ hKQ => ?_) AllReadyH.nil
  go_simp
  refine (Tryd.strings_Compare _ _ _).mono ?_
  rintro e w' ⟨rfl, hw⟩
  rw [hw, ← HZ.out.2.2.1]
  clear hw w'
  refine hKQ.out _ _ H1.out.1 (fun _ => ?_)
  clear hKQ KQ
  refine wpAnyH_ready (rs := [15]) (by kernel_rfl) (by simp) ?_
  refine AllReadyH.cons (o := _) rfl (fun KQ hKQ => ?_) AllReadyH.nil
  go_simp
  obtain ⟨g, hg⟩ : ∃ g, g = wX.heap.size := ⟨_, rfl⟩
  have H2 : Hid ((fun w' : World => w'.cell? ⟨a, 0, none⟩ = some (.int .i64 x.sess) ∧ w'.cell? ⟨a, 1, none⟩ = some (.int .i64 x.kind) ∧ w'.cell? ⟨a, 2, none⟩ = some (.string x.path) ∧ w'.cell? ⟨b, 0, none⟩ = some (.int .i64 y.sess) ∧ w'.cell? ⟨b, 1, none⟩ = some (.int .i64 y.kind) ∧ w'.cell? ⟨b, 2, none⟩ = some (.string y.path)) (wX.alloc (.cells #[.int .i64 z1, .int .i64 z2, .int .i64 z3] 3)) ∧ Below w.heap.size w (wX.alloc (.cells #[.int .i64 z1, .int .i64 z2, .int .i64 z3] 3)) ∧ Cb (wX.alloc (.cells #[.int .i64 z1, .int .i64 z2, .int .i64 z3] 3)) g [.int .i64 z1, .int .i64 z2, .int .i64 z3] 3) := by
    have h1 := (Below.refl _ wX).alloc (Nat.le_refl _) (.cells #[.int .i64 z1, .int .i64 z2, .int .i64 z3] 3)
    obtain ⟨s1, s2, s3, s4, s5, s6⟩ := H1.out.1
    rw [hg]
    exact ⟨⟨Below.kept h1 s1, Below.kept h1 s2, Below.kept h1 s3, Below.kept h1 s4, Below.kept h1 s5, Below.kept h1 s6⟩, H1.out.2.trans (h1.mono H1.out.2.size), Cb.made wX _ _⟩
  rw [← hg]
  clear hg H1
  generalize (wX.alloc (.cells #[.int .i64 z1, .int .i64 z2, .int .i64 z3] 3)) = wY at *
  refine hKQ.out _ _ H2.out.1 (fun _ => ?_)
  clear hKQ KQ
  refine wpAnyH_ready (rs := [16]) (by kernel_rfl) (by simp) ?_
  refine AllReadyH.cons (o := _) rfl (fun KQ hKQ => ?_) AllReadyH.nil
  go_simp
  refine (or_any13 z1 z2 z3 g wY (H2.out.2.2.cell 0) (H2.out.2.2.cell 1) (H2.out.2.2.cell 2)).mono ?_
  rintro e w' ⟨rfl, hw⟩
  rw [hw, ← HZ.out.2.2.2]
  clear hw w'
  refine hKQ.out _ _ H2.out.1 (fun _ => ?_)
  clear hKQ KQ
  refine' take_at (i := 17) (d := 4) (v := _) rfl rfl (by kernel_rfl) (by kernel_rfl) (by kernel_rfl) (fun _ _ _ h => h) (Or.inl ⟨by rfl, ?h17⟩) (H2.out.1) ?_
  case h17 =>
    intro w hSw
    clear hSw
    go_simp
    with_reducible rfl
  simp only [List.setIfInBounds_toArray, List.set_cons_zero, List.set_cons_succ]
  refine wpAnyH_done (by kernel_rfl) ?_ _
  go_wp2
  go_ret
  exact ⟨rfl, H2.out.2.1⟩
end Go.Proofs.YtjejpkognjedpaaDoor
