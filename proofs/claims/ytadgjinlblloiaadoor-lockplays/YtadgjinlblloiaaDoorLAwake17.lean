/- What lock's statements ask ahead of all. -/
import Derived.Test.YtadgjinlblloiaaDoorSpecs17
import Derived.Test.YtadgjinlblloiaaDoorTakeAt
import Derived.Test.YtadgjinlblloiaaDoorRowOps
import Derived.Test.YtadgjinlblloiaaDoorHeld2
import Derived.BigQuiet
import Derived.Deep.DeepCutAuto
namespace Go.Proofs.YtadgjinlblloiaaDoor
open Go.RowKit

theorem Ss.made17 {w : World} {g n : Nat} {ss : List ByteArray} (h : Cb w g (ss.map .string) 9) (hn : n = ss.length) : Ss w (.slice (some ⟨g, 0, none⟩) n n) ss := by
  refine ⟨_, _, _, rfl, hn, fun j s hs => ⟨g, 0, rfl, ?_⟩⟩
  rw [Nat.zero_add, h.cell]
  simp [hs]
set_option maxRecDepth 20000 in
set_option maxHeartbeats 4000000 in
theorem awake_any17 {LS : Rep17} (S : Specs17 LS) (W : World) (hS : Pa.Std W) :
    Calls Tryd.prog 8 #[] W fun e w' => e = .returned (.bool true) ∧ Below W.heap.size W w' := by
  have HS : Hid (Specs17 LS ∧ Pa.Std W) := ⟨S, hS⟩
  clear S hS
  go_enter Tryd.func8, Tryd.ntmps8
  go_wp2_with fail
  refine (mine17_new HS.out.1 (Below.refl _ W)).mono ?_
  rintro e w1 ⟨q, F1, rfl, hM, hF, hb⟩
  have M1 : Hid (Mine17 LS W w1 q 0 [] F1) := hM
  clear hM hF hb
  obtain ⟨g, hg⟩ : ∃ g, g = w1.heap.size := ⟨_, rfl⟩
  have H1 : Hid (Mine17 LS W (w1.alloc (.cells #[.string (⟨#[47, 97, 47, 98]⟩ : ByteArray)] 9)) q 0 [] F1 ∧ Cb (w1.alloc (.cells #[.string (⟨#[47, 97, 47, 98]⟩ : ByteArray)] 9)) g ([(⟨#[47, 97, 47, 98]⟩ : ByteArray)].map .string) 9 ∧ ¬ F1 g) := by
    rw [hg]
    exact ⟨M1.out.later HS.out.1 ((Below.refl _ w1).alloc (Nat.le_refl _) _), Cb.made w1 _ _, fun e => by have := HS.out.1.lt M1.out.ld e; omega⟩
  go_wp2_with fail
  rw [← hg]
  change Calls _ _ _ (w1.alloc (.cells #[.string (⟨#[47, 97, 47, 98]⟩ : ByteArray)] 9)) _
  clear hg M1
  generalize (w1.alloc (.cells #[.string (⟨#[47, 97, 47, 98]⟩ : ByteArray)] 9)) = v1 at *
  refine (H1.out.1.take HS.out.1 HS.out.2 (by decide) 1 (by unfold I64; decide) _ [(⟨#[47, 97, 47, 98]⟩ : ByteArray)] (Ss.made17 H1.out.2.1 rfl) (by decide) (by decide) (fun i hi _ => by simp only [Value.ownBlock, Option.some.injEq] at hi; rw [← hi]; exact H1.out.2.2) (⟨#[]⟩ : ByteArray) true [⟨(⟨#[47, 97, 47, 98]⟩ : ByteArray), 1⟩] (by kernel_rfl)).mono ?_
  rintro e w2 ⟨F2, rfl, hM, hmv⟩
  have M2 : Hid (Mine17 LS W w2 q 10 [⟨(⟨#[47, 97, 47, 98]⟩ : ByteArray), 1⟩] F2) := hM
  clear hM hmv H1
  go_wp2_with fail
  refine (M2.out.blocks HS.out.1 HS.out.2 (by decide) 2 (by unfold I64; omega) (⟨#[47, 97]⟩ : ByteArray) (by decide) true (by kernel_rfl)).mono ?_
  rintro e w3 ⟨rfl, hM, hb⟩
  have M3 : Hid (Mine17 LS W w3 q 10 [⟨(⟨#[47, 97, 47, 98]⟩ : ByteArray), 1⟩] F2) := hM
  clear hM hb M2
  go_wp2_with fail
  refine (M3.out.blocks HS.out.1 HS.out.2 (by decide) 1 (by unfold I64; omega) (⟨#[47, 97]⟩ : ByteArray) (by decide) false (by kernel_rfl)).mono ?_
  rintro e w4 ⟨rfl, hM, hb⟩
  have M4 : Hid (Mine17 LS W w4 q 10 [⟨(⟨#[47, 97, 47, 98]⟩ : ByteArray), 1⟩] F2) := hM
  clear hM hb M3
  go_wp2_with fail
  refine (M4.out.len HS.out.1 (by decide) 1 rfl).mono ?_
  rintro e w5 ⟨rfl, hM, hb⟩
  have M5 : Hid (Mine17 LS W w5 q 10 [⟨(⟨#[47, 97, 47, 98]⟩ : ByteArray), 1⟩] F2) := hM
  clear hM hb M4
  go_wp2
  go_ret
  exact ⟨rfl, M5.out.below⟩
end Go.Proofs.YtadgjinlblloiaaDoor
