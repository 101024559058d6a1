/- RouteKnown's walk. -/
import Derived.Test.YtpjdjobdbandhaaDoorLAwake16
namespace Go.Proofs.YtpjdjobdbandhaaDoor
open Go.RowKit

def ko16 (p : ByteArray) : O := ⟨0, p, ⟨#[]⟩, 0, 0⟩
def kos16 : List O := [ko16 ⟨#[47, 97]⟩, ko16 ⟨#[120]⟩, ko16 ⟨#[47, 97, 47, 98]⟩, ko16 ⟨#[47, 98]⟩]
theorem Ol.made16 {w : World} {g n : Nat} {os : List O} (h : Cb w g (os.flatMap oc) 31) (hn : n = os.length) : Ol w (.slice (some ⟨g, 0, none⟩) n n) os := by
  refine ⟨_, _, _, rfl, hn, Nat.le_refl _, fun e => (by cases e), fun j o ho => ⟨g, 0, rfl, fun i u hu => ?_⟩⟩
  rw [Nat.zero_add, h.cell]
  clear h hn
  induction os generalizing j with
  | nil => simp at ho
  | cons a l ih =>
    have hi : i < 5 := (List.getElem?_eq_some_iff.1 hu).1
    have h5 : (oc a).length = 5 := rfl
    rw [List.flatMap_cons]
    cases j with
    | zero =>
      simp at ho
      subst ho
      rw [List.getElem?_append_left (by omega), Nat.zero_mul, Nat.zero_add]
      exact hu
    | succ j =>
      rw [List.getElem?_append_right (by omega), h5, show (j + 1) * 5 + i - 5 = j * 5 + i by omega]
      exact ih j (by simpa using ho)
def S0 : Tb.St := ⟨3, 1, []⟩
def S1 : Tb.St := ⟨3, 2, [⟨(⟨#[97]⟩ : ByteArray), 2⟩]⟩
def S2 : Tb.St := ⟨3, 3, [⟨(⟨#[97]⟩ : ByteArray), 2⟩]⟩
def KL : List (List Int) := [[], [], [0, 2, 3]]
set_option maxRecDepth 20000 in
set_option maxHeartbeats 8000000 in
theorem known_any16 {LS : Rep16} (S : Specs16 LS) (W : World) (hS : Pa.Std W) :
    Calls Tryd.prog 3 #[] W fun e w' => e = .returned (.bool true) ∧ Below W.heap.size W w' := by
  have HS : Hid (Specs16 LS ∧ Pa.Std W) := ⟨S, hS⟩
  have HZ : Hid ((⟨#[97]⟩ : ByteArray).size ≤ maxLen ∧ (⟨#[97, 47, 98]⟩ : ByteArray).size ≤ maxLen ∧ (⟨#[120]⟩ : ByteArray).size ≤ maxLen ∧ (⟨#[47, 98]⟩ : ByteArray).size ≤ maxLen) := ⟨by decide, by decide, by decide, by decide⟩
  clear S hS
  go_enter Tryd.func3, Tryd.ntmps3
  go_wp2_with fail
  refine (awake_any16 HS.out.1 W HS.out.2).mono ?_
  rintro e w0 ⟨rfl, hb0⟩
  have H0 : Hid (Below W.heap.size W w0) := hb0
  clear hb0
  go_wp2_with fail
  refine (mine16_no HS.out.1 0 (by decide) w0).mono ?_
  rintro e w1 ⟨rfl, hb⟩
  have H1 : Hid (Below W.heap.size W w1) := H0.out.trans (hb.mono H0.out.size)
  clear hb H0
  go_wp2_with fail
  refine (mine16_no HS.out.1 5 (by decide) w1).mono ?_
  rintro e w2 ⟨rfl, hb⟩
  have H2 : Hid (Below W.heap.size W w2) := H1.out.trans (hb.mono H1.out.size)
  clear hb H1
  go_wp2_with fail
  refine (mine16_new HS.out.1 H2.out 3 (by decide)).mono ?_
  rintro e w3 ⟨q, F3, rfl, hM, hF, hb⟩
  have M3 : Hid (Mine16 LS W w3 q 1 S0 F3) := hM
  clear hM hF hb H2
  go_wp2_with fail
  refine (M3.out.move HS.out.1 HS.out.2 (by decide) (⟨#[97, 47, 98]⟩ : ByteArray) 0 HZ.out.2.1 1 S0 (by kernel_rfl)).mono ?_
  rintro e w4 ⟨F4, rfl, hM, hmv⟩
  have M4 : Hid (Mine16 LS W w4 q 2 S0 F4) := hM
  clear hM hmv M3
  go_wp2_with fail
  refine (M4.out.move HS.out.1 HS.out.2 (by decide) (⟨#[97]⟩ : ByteArray) 3 HZ.out.1 1 S0 (by kernel_rfl)).mono ?_
  rintro e w5 ⟨F5, rfl, hM, hmv⟩
  have M5 : Hid (Mine16 LS W w5 q 3 S0 F5) := hM
  clear hM hmv M4
  go_wp2_with fail
  refine (M5.out.move HS.out.1 HS.out.2 (by decide) (⟨#[97]⟩ : ByteArray) 2 HZ.out.1 0 S1 (by kernel_rfl)).mono ?_
  rintro e w6 ⟨F6, rfl, hM, hmv⟩
  have M6 : Hid (Mine16 LS W w6 q 4 S1 F6) := hM
  clear hM hmv M5
  go_wp2_with fail
  refine (M6.out.move HS.out.1 HS.out.2 (by decide) (⟨#[97]⟩ : ByteArray) 2 HZ.out.1 0 S2 (by kernel_rfl)).mono ?_
  rintro e w7 ⟨F7, rfl, hM, hmv⟩
  have M7 : Hid (Mine16 LS W w7 q 5 S2 F7) := hM
  clear hM hmv M6
  obtain ⟨g, hg⟩ : ∃ g, g = w7.heap.size := ⟨_, rfl⟩
  have H8 : Hid (Mine16 LS W (w7.alloc (.cells (kos16.flatMap oc).toArray 31)) q 5 S2 F7 ∧ Cb (w7.alloc (.cells (kos16.flatMap oc).toArray 31)) g (kos16.flatMap oc) 31) := by
    rw [hg]
    exact ⟨M7.out.later HS.out.1 ((Below.refl _ w7).alloc (Nat.le_refl _) _), Cb.made w7 _ _⟩
  go_wp2_with fail
  rw [← hg]
  change Calls _ _ _ (w7.alloc (.cells (kos16.flatMap oc).toArray 31)) _
  clear hg M7
  generalize (w7.alloc (.cells (kos16.flatMap oc).toArray 31)) = w8 at *
  refine (H8.out.1.split HS.out.1 HS.out.2 _ kos16 (Ol.made16 H8.out.2 rfl) (by decide) (fun o ho => ?_) KL (by kernel_rfl)).mono ?_
  · have key : ∀ o ∈ kos16, o.path.size ≤ maxLen := by
      unfold kos16 ko16
      intro o ho
      simp at ho
      rcases ho with rfl | rfl | rfl | rfl <;> decide
    exact key o ho
  rintro e w9 ⟨u, rfl, hu, hM, hb⟩
  have H9 : Hid (Mine16 LS W w9 q 5 S2 F7 ∧ Bii w9 u KL) := ⟨hM, hu⟩
  obtain ⟨au, nu, cu, rfl, hn, hc⟩ := hu
  have hn3 : nu = 3 := hn
  subst hn3
  clear hn hc hM hb H8
  go_wp2_with fail
  refine (mine16_getno HS.out.1 (.slice none 0 0) [] w9 (H9.out.1.std HS.out.2) (Bs.nil w9) (by decide) (by kernel_rfl)).mono ?_
  rintro e w10 ⟨rfl, hb⟩
  have H10 : Hid (Mine16 LS W w10 q 5 S2 F7 ∧ Bii w10 (.slice au 3 cu) KL) := ⟨H9.out.1.later HS.out.1 hb, H9.out.2.below hb⟩
  clear hb H9
  go_wp2_with fail
  refine (H10.out.1.version HS.out.1 3 rfl).mono ?_
  rintro e w11 ⟨rfl, hM, hb⟩
  have H11 : Hid (Mine16 LS W w11 q 5 S2 F7 ∧ Bii w11 (.slice au 3 cu) KL) := ⟨hM, H10.out.2.below hb⟩
  clear hb hM H10
  go_wp2_with fail
  refine (H11.out.1.of HS.out.1 HS.out.2 (⟨#[120]⟩ : ByteArray) HZ.out.2.2.1 (-1) (by kernel_rfl)).mono ?_
  rintro e w12 ⟨rfl, hM, hb⟩
  have H12 : Hid (Mine16 LS W w12 q 5 S2 F7 ∧ Bii w12 (.slice au 3 cu) KL) := ⟨hM, H11.out.2.below hb⟩
  clear hb hM H11
  obtain ⟨g1, hg1⟩ : ∃ g, g = w12.heap.size := ⟨_, rfl⟩
  obtain ⟨g2, hg2⟩ : ∃ g, g = w12.heap.size + 1 := ⟨_, rfl⟩
  have H13 : Hid (Mine16 LS W ((w12.alloc (.cells #[.int .i64 0, .int .i64 2, .int .i64 3] 3)).alloc (.cells #[.slice none 0 0, .slice none 0 0, .slice (some ⟨g1, 0, none⟩) 3 3] 36)) q 5 S2 F7 ∧ Bii ((w12.alloc (.cells #[.int .i64 0, .int .i64 2, .int .i64 3] 3)).alloc (.cells #[.slice none 0 0, .slice none 0 0, .slice (some ⟨g1, 0, none⟩) 3 3] 36)) (.slice au 3 cu) KL ∧ Bii ((w12.alloc (.cells #[.int .i64 0, .int .i64 2, .int .i64 3] 3)).alloc (.cells #[.slice none 0 0, .slice none 0 0, .slice (some ⟨g1, 0, none⟩) 3 3] 36)) (.slice (some ⟨g2, 0, none⟩) 3 3) KL) := by
    have hb1 := (Below.refl _ w12).alloc (Nat.le_refl _) (.cells #[.int .i64 0, .int .i64 2, .int .i64 3] 3)
    have hs1 : (w12.alloc (.cells #[.int .i64 0, .int .i64 2, .int .i64 3] 3)).heap.size = w12.heap.size + 1 := World.size_alloc _ _
    have hb2 := (Below.refl _ (w12.alloc (.cells #[.int .i64 0, .int .i64 2, .int .i64 3] 3))).alloc (Nat.le_refl _) (.cells #[.slice none 0 0, .slice none 0 0, .slice (some ⟨g1, 0, none⟩) 3 3] 36)
    have hbb := hb1.trans (hb2.mono hb1.size)
    have k0 : Cb (w12.alloc (.cells #[.int .i64 0, .int .i64 2, .int .i64 3] 3)) g1 [.int .i64 0, .int .i64 2, .int .i64 3] 3 := by
      rw [hg1]
      exact Cb.made w12 [.int .i64 0, .int .i64 2, .int .i64 3] _
    have k1 : Cb ((w12.alloc (.cells #[.int .i64 0, .int .i64 2, .int .i64 3] 3)).alloc (.cells #[.slice none 0 0, .slice none 0 0, .slice (some ⟨g1, 0, none⟩) 3 3] 36)) g1 [.int .i64 0, .int .i64 2, .int .i64 3] 3 := k0.below hb2
    have k2 : Cb ((w12.alloc (.cells #[.int .i64 0, .int .i64 2, .int .i64 3] 3)).alloc (.cells #[.slice none 0 0, .slice none 0 0, .slice (some ⟨g1, 0, none⟩) 3 3] 36)) g2 [.slice none 0 0, .slice none 0 0, .slice (some ⟨g1, 0, none⟩) 3 3] 36 := by
      have h := Cb.made (w12.alloc (.cells #[.int .i64 0, .int .i64 2, .int .i64 3] 3)) [.slice none 0 0, .slice none 0 0, .slice (some ⟨g1, 0, none⟩) 3 3] 36
      rw [hs1, ← hg2] at h
      exact h
    have hnil : Bi ((w12.alloc (.cells #[.int .i64 0, .int .i64 2, .int .i64 3] 3)).alloc (.cells #[.slice none 0 0, .slice none 0 0, .slice (some ⟨g1, 0, none⟩) 3 3] 36)) (.slice none 0 0) [] := ⟨_, _, _, rfl, rfl, fun j z hz => by simp at hz⟩
    refine ⟨H12.out.1.later HS.out.1 hbb, H12.out.2.below hbb, _, _, _, rfl, rfl, fun j l hl => ?_⟩
    match j, hl with
    | 0, hl => exact ⟨g2, 0, _, rfl, k2.cell 0, by rw [← Option.some.inj hl]; exact hnil⟩
    | 1, hl => exact ⟨g2, 0, _, rfl, k2.cell 1, by rw [← Option.some.inj hl]; exact hnil⟩
    | 2, hl =>
      refine ⟨g2, 0, _, rfl, k2.cell 2, ?_⟩
      rw [← Option.some.inj hl]
      refine ⟨_, _, _, rfl, rfl, fun i z hz => ⟨g1, 0, rfl, ?_⟩⟩
      match i, hz with
      | 0, hz => rw [← Option.some.inj hz]; exact k1.cell 0
      | 1, hz => rw [← Option.some.inj hz]; exact k1.cell 1
      | 2, hz => rw [← Option.some.inj hz]; exact k1.cell 2
      | (i + 3), hz => simp at hz
    | (j + 3), hl => simp [KL] at hl
  go_wp2_with fail
  rw [← hg2, ← hg1]
  clear hg1 hg2 H12
  generalize ((w12.alloc (.cells #[.int .i64 0, .int .i64 2, .int .i64 3] 3)).alloc (.cells #[.slice none 0 0, .slice none 0 0, .slice (some ⟨g1, 0, none⟩) 3 3] 36)) = w13 at *
  refine (places_any16 _ _ KL KL w13 H13.out.2.1 H13.out.2.2 (by decide) (by decide)).mono ?_
  rintro e w14 ⟨rfl, hb⟩
  have H14 : Hid (Mine16 LS W w14 q 5 S2 F7) := H13.out.1.later HS.out.1 hb
  have hdt : decide (KL = KL) = true := decide_eq_true rfl
  rw [hdt]
  clear hb H13 hdt
  go_wp2_with fail
  refine (H14.out.of HS.out.1 HS.out.2 (⟨#[47, 98]⟩ : ByteArray) HZ.out.2.2.2 2 (by kernel_rfl)).mono ?_
  rintro e w15 ⟨rfl, hM, hb⟩
  have H15 : Hid (Mine16 LS W w15 q 5 S2 F7) := hM
  clear hb hM H14
  go_wp2
  go_ret
  exact ⟨rfl, H15.out.below⟩
end Go.Proofs.YtpjdjobdbandhaaDoor
