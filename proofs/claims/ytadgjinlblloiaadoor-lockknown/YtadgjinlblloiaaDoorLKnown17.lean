/- LockKnown's walk. -/
import Derived.Test.YtadgjinlblloiaaDoorLAwake17
namespace Go.Proofs.YtadgjinlblloiaaDoor
open Go.RowKit

set_option maxRecDepth 20000 in
set_option maxHeartbeats 8000000 in
theorem known_any17 {LS : Rep17} (S : Specs17 LS) (W : World) (hS : Pa.Std W) :
    Calls Tryd.prog 3 #[] W fun e w' => e = .returned (.bool true) ∧ Below W.heap.size W w' := by
  have HS : Hid (Specs17 LS ∧ Pa.Std W) := ⟨S, hS⟩
  clear S hS
  go_enter Tryd.func3, Tryd.ntmps3
  go_wp2_with fail
  refine (awake_any17 HS.out.1 W HS.out.2).mono ?_
  rintro e w0 ⟨rfl, hb0⟩
  have H0 : Hid (Below W.heap.size W w0) := hb0
  clear hb0
  go_wp2_with fail
  refine (mine17_new HS.out.1 (H0.out)).mono ?_
  rintro e w1 ⟨q, F1, rfl, hM, hF, hb⟩
  have M1 : Hid (Mine17 LS W w1 q 0 [] F1) := hM
  clear hM hF hb
  clear H0
  obtain ⟨g, hg⟩ : ∃ g, g = w1.heap.size := ⟨_, rfl⟩
  have H1 : Hid (Mine17 LS W (w1.alloc (.cells #[.string (⟨#[47, 97, 47, 98]⟩ : ByteArray), .string (⟨#[47, 97, 47, 98]⟩ : ByteArray)] 9)) q 0 [] F1 ∧ Cb (w1.alloc (.cells #[.string (⟨#[47, 97, 47, 98]⟩ : ByteArray), .string (⟨#[47, 97, 47, 98]⟩ : ByteArray)] 9)) g ([(⟨#[47, 97, 47, 98]⟩ : ByteArray), (⟨#[47, 97, 47, 98]⟩ : ByteArray)].map .string) 9 ∧ ¬ F1 g) := by
    rw [hg]
    exact ⟨M1.out.later HS.out.1 ((Below.refl _ w1).alloc (Nat.le_refl _) _), Cb.made w1 _ _, fun e => by have := HS.out.1.lt M1.out.ld e; omega⟩
  go_wp2_with fail
  rw [← hg]
  change Calls _ _ _ (w1.alloc (.cells #[.string (⟨#[47, 97, 47, 98]⟩ : ByteArray), .string (⟨#[47, 97, 47, 98]⟩ : ByteArray)] 9)) _
  clear hg M1
  generalize (w1.alloc (.cells #[.string (⟨#[47, 97, 47, 98]⟩ : ByteArray), .string (⟨#[47, 97, 47, 98]⟩ : ByteArray)] 9)) = v1 at *
  refine (H1.out.1.take HS.out.1 HS.out.2 (by decide) 1 (by unfold I64; decide) _ [(⟨#[47, 97, 47, 98]⟩ : ByteArray), (⟨#[47, 97, 47, 98]⟩ : ByteArray)] (Ss.made17 H1.out.2.1 rfl) (by decide) (by decide) (fun i hi _ => by simp only [Value.ownBlock, Option.some.injEq] at hi; rw [← hi]; exact H1.out.2.2) (⟨#[]⟩ : ByteArray) true [⟨(⟨#[47, 97, 47, 98]⟩ : ByteArray), 1⟩] (by kernel_rfl)).mono ?_
  rintro e w2 ⟨F2, rfl, hM, hmv⟩
  have M2 : Hid (Mine17 LS W w2 q 10 [⟨(⟨#[47, 97, 47, 98]⟩ : ByteArray), 1⟩] F2) := hM
  clear hM hmv H1
  obtain ⟨g, hg⟩ : ∃ g, g = w2.heap.size := ⟨_, rfl⟩
  have H2 : Hid (Mine17 LS W (w2.alloc (.cells #[.string (⟨#[47, 120]⟩ : ByteArray), .string (⟨#[47, 97, 47, 98, 47, 99]⟩ : ByteArray), .string (⟨#[47, 97]⟩ : ByteArray)] 9)) q 10 [⟨(⟨#[47, 97, 47, 98]⟩ : ByteArray), 1⟩] F2 ∧ Cb (w2.alloc (.cells #[.string (⟨#[47, 120]⟩ : ByteArray), .string (⟨#[47, 97, 47, 98, 47, 99]⟩ : ByteArray), .string (⟨#[47, 97]⟩ : ByteArray)] 9)) g ([(⟨#[47, 120]⟩ : ByteArray), (⟨#[47, 97, 47, 98, 47, 99]⟩ : ByteArray), (⟨#[47, 97]⟩ : ByteArray)].map .string) 9 ∧ ¬ F2 g) := by
    rw [hg]
    exact ⟨M2.out.later HS.out.1 ((Below.refl _ w2).alloc (Nat.le_refl _) _), Cb.made w2 _ _, fun e => by have := HS.out.1.lt M2.out.ld e; omega⟩
  go_wp2_with fail
  rw [← hg]
  change Calls _ _ _ (w2.alloc (.cells #[.string (⟨#[47, 120]⟩ : ByteArray), .string (⟨#[47, 97, 47, 98, 47, 99]⟩ : ByteArray), .string (⟨#[47, 97]⟩ : ByteArray)] 9)) _
  clear hg M2
  generalize (w2.alloc (.cells #[.string (⟨#[47, 120]⟩ : ByteArray), .string (⟨#[47, 97, 47, 98, 47, 99]⟩ : ByteArray), .string (⟨#[47, 97]⟩ : ByteArray)] 9)) = v2 at *
  refine (H2.out.1.take HS.out.1 HS.out.2 (by decide) 2 (by unfold I64; decide) _ [(⟨#[47, 120]⟩ : ByteArray), (⟨#[47, 97, 47, 98, 47, 99]⟩ : ByteArray), (⟨#[47, 97]⟩ : ByteArray)] (Ss.made17 H2.out.2.1 rfl) (by decide) (by decide) (fun i hi _ => by simp only [Value.ownBlock, Option.some.injEq] at hi; rw [← hi]; exact H2.out.2.2) (⟨#[47, 97, 47, 98, 47, 99]⟩ : ByteArray) false [⟨(⟨#[47, 97, 47, 98]⟩ : ByteArray), 1⟩] (by kernel_rfl)).mono ?_
  rintro e w3 ⟨F3, rfl, hM, hmv⟩
  have M3 : Hid (Mine17 LS W w3 q 20 [⟨(⟨#[47, 97, 47, 98]⟩ : ByteArray), 1⟩] F3) := hM
  clear hM hmv H2
  obtain ⟨g, hg⟩ : ∃ g, g = w3.heap.size := ⟨_, rfl⟩
  have H3 : Hid (Mine17 LS W (w3.alloc (.cells #[.string (⟨#[47, 120]⟩ : ByteArray), .string (⟨#[47, 97, 47, 98]⟩ : ByteArray), .string (⟨#[98, 97, 100]⟩ : ByteArray)] 9)) q 20 [⟨(⟨#[47, 97, 47, 98]⟩ : ByteArray), 1⟩] F3 ∧ Cb (w3.alloc (.cells #[.string (⟨#[47, 120]⟩ : ByteArray), .string (⟨#[47, 97, 47, 98]⟩ : ByteArray), .string (⟨#[98, 97, 100]⟩ : ByteArray)] 9)) g ([(⟨#[47, 120]⟩ : ByteArray), (⟨#[47, 97, 47, 98]⟩ : ByteArray), (⟨#[98, 97, 100]⟩ : ByteArray)].map .string) 9 ∧ ¬ F3 g) := by
    rw [hg]
    exact ⟨M3.out.later HS.out.1 ((Below.refl _ w3).alloc (Nat.le_refl _) _), Cb.made w3 _ _, fun e => by have := HS.out.1.lt M3.out.ld e; omega⟩
  go_wp2_with fail
  rw [← hg]
  change Calls _ _ _ (w3.alloc (.cells #[.string (⟨#[47, 120]⟩ : ByteArray), .string (⟨#[47, 97, 47, 98]⟩ : ByteArray), .string (⟨#[98, 97, 100]⟩ : ByteArray)] 9)) _
  clear hg M3
  generalize (w3.alloc (.cells #[.string (⟨#[47, 120]⟩ : ByteArray), .string (⟨#[47, 97, 47, 98]⟩ : ByteArray), .string (⟨#[98, 97, 100]⟩ : ByteArray)] 9)) = v3 at *
  refine (H3.out.1.take HS.out.1 HS.out.2 (by decide) 2 (by unfold I64; decide) _ [(⟨#[47, 120]⟩ : ByteArray), (⟨#[47, 97, 47, 98]⟩ : ByteArray), (⟨#[98, 97, 100]⟩ : ByteArray)] (Ss.made17 H3.out.2.1 rfl) (by decide) (by decide) (fun i hi _ => by simp only [Value.ownBlock, Option.some.injEq] at hi; rw [← hi]; exact H3.out.2.2) (⟨#[98, 97, 100]⟩ : ByteArray) false [⟨(⟨#[47, 97, 47, 98]⟩ : ByteArray), 1⟩] (by kernel_rfl)).mono ?_
  rintro e w4 ⟨F4, rfl, hM, hmv⟩
  have M4 : Hid (Mine17 LS W w4 q 30 [⟨(⟨#[47, 97, 47, 98]⟩ : ByteArray), 1⟩] F4) := hM
  clear hM hmv H3
  obtain ⟨g, hg⟩ : ∃ g, g = w4.heap.size := ⟨_, rfl⟩
  have H4 : Hid (Mine17 LS W (w4.alloc (.cells #[.string (⟨#[47, 97, 47, 99]⟩ : ByteArray), .string (⟨#[47, 120]⟩ : ByteArray)] 9)) q 30 [⟨(⟨#[47, 97, 47, 98]⟩ : ByteArray), 1⟩] F4 ∧ Cb (w4.alloc (.cells #[.string (⟨#[47, 97, 47, 99]⟩ : ByteArray), .string (⟨#[47, 120]⟩ : ByteArray)] 9)) g ([(⟨#[47, 97, 47, 99]⟩ : ByteArray), (⟨#[47, 120]⟩ : ByteArray)].map .string) 9 ∧ ¬ F4 g) := by
    rw [hg]
    exact ⟨M4.out.later HS.out.1 ((Below.refl _ w4).alloc (Nat.le_refl _) _), Cb.made w4 _ _, fun e => by have := HS.out.1.lt M4.out.ld e; omega⟩
  go_wp2_with fail
  rw [← hg]
  change Calls _ _ _ (w4.alloc (.cells #[.string (⟨#[47, 97, 47, 99]⟩ : ByteArray), .string (⟨#[47, 120]⟩ : ByteArray)] 9)) _
  clear hg M4
  generalize (w4.alloc (.cells #[.string (⟨#[47, 97, 47, 99]⟩ : ByteArray), .string (⟨#[47, 120]⟩ : ByteArray)] 9)) = v4 at *
  refine (H4.out.1.take HS.out.1 HS.out.2 (by decide) 2 (by unfold I64; decide) _ [(⟨#[47, 97, 47, 99]⟩ : ByteArray), (⟨#[47, 120]⟩ : ByteArray)] (Ss.made17 H4.out.2.1 rfl) (by decide) (by decide) (fun i hi _ => by simp only [Value.ownBlock, Option.some.injEq] at hi; rw [← hi]; exact H4.out.2.2) (⟨#[]⟩ : ByteArray) true [⟨(⟨#[47, 97, 47, 98]⟩ : ByteArray), 1⟩, ⟨(⟨#[47, 97, 47, 99]⟩ : ByteArray), 2⟩, ⟨(⟨#[47, 120]⟩ : ByteArray), 2⟩] (by kernel_rfl)).mono ?_
  rintro e w5 ⟨F5, rfl, hM, hmv⟩
  have M5 : Hid (Mine17 LS W w5 q 40 [⟨(⟨#[47, 97, 47, 98]⟩ : ByteArray), 1⟩, ⟨(⟨#[47, 97, 47, 99]⟩ : ByteArray), 2⟩, ⟨(⟨#[47, 120]⟩ : ByteArray), 2⟩] F5) := hM
  clear hM hmv H4
  go_wp2_with fail
  refine (M5.out.held HS.out.1 (by decide) (⟨#[47, 97, 47, 99]⟩ : ByteArray) (by decide) (some 2) (by kernel_rfl)).mono ?_
  rintro e w6 ⟨rfl, hM, hb⟩
  simp only [Option.getD_some, Option.isSome_some]
  have M6 : Hid (Mine17 LS W w6 q 40 [⟨(⟨#[47, 97, 47, 98]⟩ : ByteArray), 1⟩, ⟨(⟨#[47, 97, 47, 99]⟩ : ByteArray), 2⟩, ⟨(⟨#[47, 120]⟩ : ByteArray), 2⟩] F5) := hM
  clear hM hb M5
  go_wp2_with fail
  refine (M6.out.held HS.out.1 (by decide) (⟨#[47, 97]⟩ : ByteArray) (by decide) (none) (by kernel_rfl)).mono ?_
  rintro e w7 ⟨rfl, hM, hb⟩
  simp only [Option.getD_none, Option.isSome_none]
  have M7 : Hid (Mine17 LS W w7 q 40 [⟨(⟨#[47, 97, 47, 98]⟩ : ByteArray), 1⟩, ⟨(⟨#[47, 97, 47, 99]⟩ : ByteArray), 2⟩, ⟨(⟨#[47, 120]⟩ : ByteArray), 2⟩] F5) := hM
  clear hM hb M6
  go_wp2_with fail
  refine (M7.out.free HS.out.1 HS.out.2 (by decide) 1 (by unfold I64; omega) 1 [⟨(⟨#[47, 97, 47, 99]⟩ : ByteArray), 2⟩, ⟨(⟨#[47, 120]⟩ : ByteArray), 2⟩] (by kernel_rfl) (by kernel_rfl)).mono ?_
  rintro e w8 ⟨F8, rfl, hM, hmv⟩
  have M8 : Hid (Mine17 LS W w8 q 40 [⟨(⟨#[47, 97, 47, 99]⟩ : ByteArray), 2⟩, ⟨(⟨#[47, 120]⟩ : ByteArray), 2⟩] F8) := hM
  clear hM hmv M7
  go_wp2_with fail
  refine (M8.out.take HS.out.1 HS.out.2 (by decide) 2 (by unfold I64; decide) (.slice none 0 0) [] ⟨_, _, _, rfl, rfl, fun j s hs => by simp at hs⟩ (by decide) (by simp) (fun i hi _ => by cases hi) (⟨#[]⟩ : ByteArray) true [⟨(⟨#[47, 97, 47, 99]⟩ : ByteArray), 2⟩, ⟨(⟨#[47, 120]⟩ : ByteArray), 2⟩] (by kernel_rfl)).mono ?_
  rintro e w9 ⟨F9, rfl, hM, hmv⟩
  have M9 : Hid (Mine17 LS W w9 q 50 [⟨(⟨#[47, 97, 47, 99]⟩ : ByteArray), 2⟩, ⟨(⟨#[47, 120]⟩ : ByteArray), 2⟩] F9) := hM
  clear hM hmv M8
  go_wp2_with fail
  refine (M9.out.len HS.out.1 (by decide) 2 rfl).mono ?_
  rintro e w10 ⟨rfl, hM, hb⟩
  have M10 : Hid (Mine17 LS W w10 q 50 [⟨(⟨#[47, 97, 47, 99]⟩ : ByteArray), 2⟩, ⟨(⟨#[47, 120]⟩ : ByteArray), 2⟩] F9) := hM
  clear hM hb M9
  go_wp2_with fail
  refine (M10.out.blocks HS.out.1 HS.out.2 (by decide) 1 (by unfold I64; omega) (⟨#[98, 97, 100]⟩ : ByteArray) (by decide) false (by kernel_rfl)).mono ?_
  rintro e w11 ⟨rfl, hM, hb⟩
  have M11 : Hid (Mine17 LS W w11 q 50 [⟨(⟨#[47, 97, 47, 99]⟩ : ByteArray), 2⟩, ⟨(⟨#[47, 120]⟩ : ByteArray), 2⟩] F9) := hM
  clear hM hb M10
  go_wp2
  go_ret
  exact ⟨rfl, M11.out.below⟩
end Go.Proofs.YtadgjinlblloiaaDoor
