/- What NetKnown answers: its walk. -/
import Derived.Test.YtkldecdjokfajaaLAwake9
namespace Go.Proofs.Ytkldecdjokfajaa
open Go.RowKit

set_option maxRecDepth 20000 in
set_option maxHeartbeats 4000000 in
theorem known_any9 {LN : RepN} (S : Specs9 LN) (W : World) :
    Calls Try.prog 3 #[] W fun e w' => e = .returned (.bool true) ∧ Below W.heap.size W w' := by
  have HS : Hid (Specs9 LN) := S
  clear S
  go_enter Try.func3, Try.ntmps3
  go_wp2_with fail
  refine (awake_any9 HS.out W).mono ?_
  rintro e w0 ⟨rfl, hb⟩
  have B0 : Hid (Below W.heap.size W w0) := hb
  clear hb
  go_wp2_with fail
  refine (mine9_no HS.out 0 1 (by decide) w0).mono ?_
  rintro e w1 ⟨rfl, hb⟩
  have B1 : Hid (Below W.heap.size W w1) := (B0.out).trans (hb.mono (B0.out).size)
  clear hb
  go_wp2_with fail
  refine (mine9_no HS.out 65 1 (by decide) w1).mono ?_
  rintro e w2 ⟨rfl, hb⟩
  have B2 : Hid (Below W.heap.size W w2) := (B1.out).trans (hb.mono (B1.out).size)
  clear hb
  go_wp2_with fail
  refine (mine9_no HS.out 2 0 (by decide) w2).mono ?_
  rintro e w3 ⟨rfl, hb⟩
  have B3 : Hid (Below W.heap.size W w3) := (B2.out).trans (hb.mono (B2.out).size)
  clear hb
  go_wp2_with fail
  refine (mine9_new HS.out (B3.out) 2 1 (by decide) (by decide)).mono ?_
  rintro e w4 ⟨q, F4, rfl, hM⟩
  have M4 : Hid (Mine9 LN W w4 q (Nq.made 2 1) F4) := hM
  clear hM
  go_wp2_with fail
  refine (M4.out.sendBare HS.out [(0, 2, 0), (0, 1, 0), (0, 1, 0)] _ (by simp) 1 ⟨2, 1, [⟨0, 1, 0, [], []⟩], fun _ _ => false⟩ rfl rfl).mono ?_
  rintro e w5 ⟨F5, rfl, hM⟩
  have M5 : Hid (Mine9 LN W w5 q ⟨2, 1, [⟨0, 1, 0, [], []⟩], fun _ _ => false⟩ F5) := hM
  clear hM
  go_wp2_with fail
  refine (M5.out.copy HS.out 0 false ⟨2, 1, [⟨0, 1, 0, [], []⟩], fun _ _ => false⟩ rfl rfl).mono ?_
  rintro e w6 ⟨F6, rfl, hM, hmv⟩
  clear hmv
  have M6 : Hid (Mine9 LN W w6 q ⟨2, 1, [⟨0, 1, 0, [], []⟩], fun _ _ => false⟩ F6) := hM
  clear hM
  go_wp2_with fail
  refine (M6.out.at_ HS.out 1 Nq.Ms.zero false rfl rfl).mono ?_
  rintro e w7 ⟨a, b, rfl, hp, hM, hbl⟩
  clear hbl
  obtain ⟨F7, hFF⟩ : ∃ z : Nat → Prop, z = F6 := ⟨_, rfl⟩
  rw [← hFF] at hM
  clear hFF
  have M7 : Hid (Mine9 LN W w7 q ⟨2, 1, [⟨0, 1, 0, [], []⟩], fun _ _ => false⟩ F7) := hM
  clear hM
  obtain ⟨av, ka, ca, rfl, hn1, hn2⟩ := hp.ns
  obtain ⟨bv, kb, cb, rfl, hn3, hn4⟩ := hp.bs
  clear hp hn1 hn2 hn3 hn4
  unfold mv
  go_wp2_with fail
  refine ((M7.out.later HS.out ((Below.refl _ w7).alloc (Nat.le_refl _) _)).lose HS.out 0 true (Nq.made 2 1) rfl rfl).mono ?_
  rintro e w8 ⟨F8, rfl, hM, hmv⟩
  clear hmv
  have M8 : Hid (Mine9 LN W w8 q (Nq.made 2 1) F8) := hM
  clear hM
  go_wp2_with fail
  refine (M8.out.len HS.out 0 rfl).mono ?_
  rintro e w9 ⟨rfl, hM, hbl⟩
  clear hbl
  obtain ⟨F9, hFF⟩ : ∃ z : Nat → Prop, z = F8 := ⟨_, rfl⟩
  rw [← hFF] at hM
  clear hFF
  have M9 : Hid (Mine9 LN W w9 q (Nq.made 2 1) F9) := hM
  clear hM
  go_wp2_with fail
  refine (M9.out.lose HS.out 0 false (Nq.made 2 1) rfl rfl).mono ?_
  rintro e w10 ⟨F10, rfl, hM, hmv⟩
  clear hmv
  have M10 : Hid (Mine9 LN W w10 q (Nq.made 2 1) F10) := hM
  clear hM
  go_wp2_with fail
  refine (M10.out.send HS.out (.slice none 0 0) [] (Ml.nil _ (fun _ => False)) (fun _ h => h.elim) (fun _ h => h.elim) (by decide) (fun m h => by simp at h) 0 (Nq.made 2 1) rfl rfl).mono ?_
  rintro e w11 ⟨F11, rfl, hM, hmv⟩
  clear hmv
  have M11 : Hid (Mine9 LN W w11 q (Nq.made 2 1) F11) := hM
  clear hM
  go_wp2
  go_ret
  exact ⟨rfl, M11.out.below⟩
end Go.Proofs.Ytkldecdjokfajaa
