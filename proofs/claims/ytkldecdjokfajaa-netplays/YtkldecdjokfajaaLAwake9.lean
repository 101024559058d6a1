/- What the statements' own awake answers. -/
import Derived.Test.YtkldecdjokfajaaSpecs9
namespace Go.Proofs.Ytkldecdjokfajaa
open Go.RowKit

set_option maxRecDepth 20000 in
set_option maxHeartbeats 4000000 in
theorem awake_any9 {LN : RepN} (S : Specs9 LN) (W : World) :
    Calls Try.prog 8 #[] W fun e w' => e = .returned (.bool true) ∧ Below W.heap.size W w' := by
  have HS : Hid (Specs9 LN) := S
  clear S
  go_enter Try.func8, Try.ntmps8
  go_wp2_with fail
  refine (mine9_new HS.out (Below.refl _ W) 2 4 (by decide) (by decide)).mono ?_
  rintro e w1 ⟨q, F1, rfl, hM⟩
  have M1 : Hid (Mine9 LN W w1 q (Nq.made 2 4) F1) := hM
  clear hM
  go_wp2_with fail
  refine (M1.out.cut HS.out 0 1 true (Nq.cutW (Nq.made 2 4) 0 1 true) rfl).mono ?_
  rintro e w2 ⟨F2, rfl, hM, hmv⟩
  clear hmv
  have M2 : Hid (Mine9 LN W w2 q (Nq.cutW (Nq.made 2 4) 0 1 true) F2) := hM
  clear hM
  go_wp2_with fail
  refine (M2.out.sendBare HS.out [(0, 1, 0)] _ (by simp) 0 (Nq.cutW (Nq.made 2 4) 0 1 true) rfl rfl).mono ?_
  rintro e w3 ⟨F3, rfl, hM⟩
  have M3 : Hid (Mine9 LN W w3 q (Nq.cutW (Nq.made 2 4) 0 1 true) F3) := hM
  clear hM
  go_wp2_with fail
  refine (M3.out.heal HS.out (Nq.made 2 4) rfl).mono ?_
  rintro e w4 ⟨F4, rfl, hM, hmv⟩
  clear hmv
  have M4 : Hid (Mine9 LN W w4 q (Nq.made 2 4) F4) := hM
  clear hM
  go_wp2_with fail
  refine (M4.out.sendBare HS.out [(0, 1, 7), (1, 0, 0)] _ (by simp) 2 ⟨2, 4, [⟨0, 1, 7, [], []⟩, ⟨1, 0, 0, [], []⟩], fun _ _ => false⟩ rfl rfl).mono ?_
  rintro e w5 ⟨F5, rfl, hM⟩
  have M5 : Hid (Mine9 LN W w5 q ⟨2, 4, [⟨0, 1, 7, [], []⟩, ⟨1, 0, 0, [], []⟩], fun _ _ => false⟩ F5) := hM
  clear hM
  go_wp2_with fail
  refine (M5.out.take HS.out 0 ⟨0, 1, 7, [], []⟩ true ⟨2, 4, [⟨1, 0, 0, [], []⟩], fun _ _ => false⟩ rfl rfl rfl).mono ?_
  rintro e w6 ⟨F6, a, b, rfl, hp, hM, hmv⟩
  clear hmv
  have M6 : Hid (Mine9 LN W w6 q ⟨2, 4, [⟨1, 0, 0, [], []⟩], fun _ _ => false⟩ F6) := hM
  clear hM
  obtain ⟨av, ka, ca, rfl, hn1, hn2⟩ := hp.ns
  obtain ⟨bv, kb, cb, rfl, hn3, hn4⟩ := hp.bs
  clear hp hn1 hn2 hn3 hn4
  unfold mv
  go_wp2_with fail
  refine ((M6.out.later HS.out ((Below.refl _ w6).alloc (Nat.le_refl _) _)).len HS.out 1 rfl).mono ?_
  rintro e w7 ⟨rfl, hM, hbl⟩
  clear hbl
  obtain ⟨F7, hFF⟩ : ∃ z : Nat → Prop, z = F6 := ⟨_, rfl⟩
  rw [← hFF] at hM
  clear hFF
  have M7 : Hid (Mine9 LN W w7 q ⟨2, 4, [⟨1, 0, 0, [], []⟩], fun _ _ => false⟩ F7) := hM
  clear hM
  go_wp2
  go_ret
  exact ⟨rfl, M7.out.below⟩
end Go.Proofs.Ytkldecdjokfajaa
