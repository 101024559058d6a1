/- WatchKnown's walk. -/
import Derived.Test.YtjejpkognjedpaaDoorEk13
namespace Go.Proofs.YtjejpkognjedpaaDoor
open Go.RowKit

theorem short13 (a : Array UInt8) (h : decide (a.size ≤ 10) = true) : (⟨a⟩ : ByteArray).size ≤ maxLen := by
  have h1 : a.size ≤ 10 := by simpa using h
  have h2 : (⟨a⟩ : ByteArray).size = a.size := rfl
  rw [h2]
  unfold maxLen
  omega
set_option maxRecDepth 20000 in
set_option maxHeartbeats 8000000 in
theorem known_any13 {LW : Rep13} (S : Specs13 LW) (W : World) (hS : Pa.Std W) :
    Calls Tryd.prog 3 #[] W fun e w' => e = .returned (.bool true) ∧ Below W.heap.size W w' := by
  have HS : Hid (Specs13 LW ∧ Pa.Std W) := ⟨S, hS⟩
  clear S hS
  go_enter Tryd.func3, Tryd.ntmps3
  go_wp2_with fail
  refine (awake_any13 HS.out.1 W HS.out.2).mono ?_
  rintro e wa ⟨rfl, hb0⟩
  have H0 : Hid (Below W.heap.size W wa) := hb0
  clear hb0
  go_wp2_with fail
  refine (mine13_no HS.out.1 0 (by decide) wa).mono ?_
  rintro e wb ⟨rfl, hb0⟩
  have H1 : Hid (Below W.heap.size W wb) := H0.out.trans (hb0.mono H0.out.size)
  clear hb0
  go_wp2_with fail
  refine (mine13_new HS.out.1 H1.out 2 (by decide)).mono ?_
  rintro e w0 ⟨q, F0, rfl, hM⟩
  have M0 : Hid (Mine13 LW W w0 q ⟨2, []⟩ F0) := hM
  clear hM
  go_wp2_with fail
  refine (M0.out.arm HS.out.1 HS.out.2 (0) ⟨#[47, 97]⟩ (1) (short13 _ (by kernel_rfl)) (1) ⟨2, []⟩ (by kernel_rfl)).mono ?_
  rintro e w1 ⟨F1, rfl, hM, hmv⟩
  have M1 : Hid (Mine13 LW W w1 q ⟨2, []⟩ F1) := hM
  clear hM hmv
  go_wp2_with fail
  refine (M1.out.arm HS.out.1 HS.out.2 (1) ⟨#[97]⟩ (1) (short13 _ (by kernel_rfl)) (1) ⟨2, []⟩ (by kernel_rfl)).mono ?_
  rintro e w2 ⟨F2, rfl, hM, hmv⟩
  have M2 : Hid (Mine13 LW W w2 q ⟨2, []⟩ F2) := hM
  clear hM hmv
  go_wp2_with fail
  refine (M2.out.arm HS.out.1 HS.out.2 (1) ⟨#[47, 97]⟩ (3) (short13 _ (by kernel_rfl)) (1) ⟨2, []⟩ (by kernel_rfl)).mono ?_
  rintro e w3 ⟨F3, rfl, hM, hmv⟩
  have M3 : Hid (Mine13 LW W w3 q ⟨2, []⟩ F3) := hM
  clear hM hmv
  go_wp2_with fail
  refine (M3.out.arm HS.out.1 HS.out.2 (2) ⟨#[47, 97]⟩ (2) (short13 _ (by kernel_rfl)) (0) ⟨2, [⟨2, 2, ⟨#[47, 97]⟩⟩]⟩ (by kernel_rfl)).mono ?_
  rintro e w4 ⟨F4, rfl, hM, hmv⟩
  have M4 : Hid (Mine13 LW W w4 q ⟨2, [⟨2, 2, ⟨#[47, 97]⟩⟩]⟩ F4) := hM
  clear hM hmv
  go_wp2_with fail
  refine (M4.out.arm HS.out.1 HS.out.2 (2) ⟨#[47, 97]⟩ (2) (short13 _ (by kernel_rfl)) (0) ⟨2, [⟨2, 2, ⟨#[47, 97]⟩⟩]⟩ (by kernel_rfl)).mono ?_
  rintro e w5 ⟨F5, rfl, hM, hmv⟩
  have M5 : Hid (Mine13 LW W w5 q ⟨2, [⟨2, 2, ⟨#[47, 97]⟩⟩]⟩ F5) := hM
  clear hM hmv
  go_wp2_with fail
  refine (M5.out.arm HS.out.1 HS.out.2 (1) ⟨#[47, 97, 47, 98]⟩ (1) (short13 _ (by kernel_rfl)) (0) ⟨2, [⟨1, 1, ⟨#[47, 97, 47, 98]⟩⟩, ⟨2, 2, ⟨#[47, 97]⟩⟩]⟩ (by kernel_rfl)).mono ?_
  rintro e w6 ⟨F6, rfl, hM, hmv⟩
  have M6 : Hid (Mine13 LW W w6 q ⟨2, [⟨1, 1, ⟨#[47, 97, 47, 98]⟩⟩, ⟨2, 2, ⟨#[47, 97]⟩⟩]⟩ F6) := hM
  clear hM hmv
  go_wp2_with fail
  refine (M6.out.arm HS.out.1 HS.out.2 (3) ⟨#[47, 97]⟩ (1) (short13 _ (by kernel_rfl)) (9) ⟨2, [⟨1, 1, ⟨#[47, 97, 47, 98]⟩⟩, ⟨2, 2, ⟨#[47, 97]⟩⟩]⟩ (by kernel_rfl)).mono ?_
  rintro e w7 ⟨F7, rfl, hM, hmv⟩
  have M7 : Hid (Mine13 LW W w7 q ⟨2, [⟨1, 1, ⟨#[47, 97, 47, 98]⟩⟩, ⟨2, 2, ⟨#[47, 97]⟩⟩]⟩ F7) := hM
  clear hM hmv
  go_wp2_with fail
  refine (M7.out.fire HS.out.1 HS.out.2 ⟨#[47, 97, 47, 98]⟩ (3) (short13 _ (by kernel_rfl)) [⟨1, 3, ⟨#[47, 97, 47, 98]⟩⟩] ⟨2, [⟨2, 2, ⟨#[47, 97]⟩⟩]⟩ (by kernel_rfl) (by kernel_rfl)).mono ?_
  rintro e w8 ⟨F8, vx, rfl, hev, hof, hM, hmv⟩
  have M8 : Hid (Mine13 LW W w8 q ⟨2, [⟨2, 2, ⟨#[47, 97]⟩⟩]⟩ F8) := hM
  have Evx8 : Hid (Ek w8 F8 vx [⟨1, 3, ⟨#[47, 97, 47, 98]⟩⟩]) := Ek.of hev hof
  clear hM hmv hev hof
  go_wp2_with fail
  refine (M8.out.fire HS.out.1 HS.out.2 ⟨#[47, 97, 47, 98]⟩ (1) (short13 _ (by kernel_rfl)) [⟨2, 4, ⟨#[47, 97]⟩⟩] ⟨2, []⟩ (by kernel_rfl) (by kernel_rfl)).mono ?_
  rintro e w9 ⟨F9, vy, rfl, hev, hof, hM, hmv⟩
  have M9 : Hid (Mine13 LW W w9 q ⟨2, []⟩ F9) := hM
  have Evx9 : Hid (Ek w9 F9 vx [⟨1, 3, ⟨#[47, 97, 47, 98]⟩⟩]) := Evx8.out.moved hmv
  have Evy9 : Hid (Ek w9 F9 vy [⟨2, 4, ⟨#[47, 97]⟩⟩]) := Ek.of hev hof
  clear hM hmv hev hof
  go_wp2_with fail
  refine (M9.out.arm HS.out.1 HS.out.2 (2) ⟨#[47, 97]⟩ (2) (short13 _ (by kernel_rfl)) (0) ⟨2, [⟨2, 2, ⟨#[47, 97]⟩⟩]⟩ (by kernel_rfl)).mono ?_
  rintro e w10 ⟨F10, rfl, hM, hmv⟩
  have M10 : Hid (Mine13 LW W w10 q ⟨2, [⟨2, 2, ⟨#[47, 97]⟩⟩]⟩ F10) := hM
  have Evx10 : Hid (Ek w10 F10 vx [⟨1, 3, ⟨#[47, 97, 47, 98]⟩⟩]) := Evx9.out.moved hmv
  have Evy10 : Hid (Ek w10 F10 vy [⟨2, 4, ⟨#[47, 97]⟩⟩]) := Evy9.out.moved hmv
  clear hM hmv
  go_wp2_with fail
  refine (M10.out.fire HS.out.1 HS.out.2 ⟨#[47, 97]⟩ (2) (short13 _ (by kernel_rfl)) [⟨2, 2, ⟨#[47, 97]⟩⟩] ⟨2, []⟩ (by kernel_rfl) (by kernel_rfl)).mono ?_
  rintro e w11 ⟨F11, vz, rfl, hev, hof, hM, hmv⟩
  have M11 : Hid (Mine13 LW W w11 q ⟨2, []⟩ F11) := hM
  have Evx11 : Hid (Ek w11 F11 vx [⟨1, 3, ⟨#[47, 97, 47, 98]⟩⟩]) := Evx10.out.moved hmv
  have Evy11 : Hid (Ek w11 F11 vy [⟨2, 4, ⟨#[47, 97]⟩⟩]) := Evy10.out.moved hmv
  have Evz11 : Hid (Ek w11 F11 vz [⟨2, 2, ⟨#[47, 97]⟩⟩]) := Ek.of hev hof
  clear hM hmv hev hof
  go_wp2_with fail
  refine (M11.out.arm HS.out.1 HS.out.2 (7) ⟨#[47, 97]⟩ (1) (short13 _ (by kernel_rfl)) (0) ⟨2, [⟨7, 1, ⟨#[47, 97]⟩⟩]⟩ (by kernel_rfl)).mono ?_
  rintro e w12 ⟨F12, rfl, hM, hmv⟩
  have M12 : Hid (Mine13 LW W w12 q ⟨2, [⟨7, 1, ⟨#[47, 97]⟩⟩]⟩ F12) := hM
  have Evx12 : Hid (Ek w12 F12 vx [⟨1, 3, ⟨#[47, 97, 47, 98]⟩⟩]) := Evx11.out.moved hmv
  have Evy12 : Hid (Ek w12 F12 vy [⟨2, 4, ⟨#[47, 97]⟩⟩]) := Evy11.out.moved hmv
  have Evz12 : Hid (Ek w12 F12 vz [⟨2, 2, ⟨#[47, 97]⟩⟩]) := Evz11.out.moved hmv
  clear hM hmv
  go_wp2_with fail
  refine (M12.out.arm HS.out.1 HS.out.2 (7) ⟨#[47, 98]⟩ (1) (short13 _ (by kernel_rfl)) (0) ⟨2, [⟨7, 1, ⟨#[47, 97]⟩⟩, ⟨7, 1, ⟨#[47, 98]⟩⟩]⟩ (by kernel_rfl)).mono ?_
  rintro e w13 ⟨F13, rfl, hM, hmv⟩
  have M13 : Hid (Mine13 LW W w13 q ⟨2, [⟨7, 1, ⟨#[47, 97]⟩⟩, ⟨7, 1, ⟨#[47, 98]⟩⟩]⟩ F13) := hM
  have Evx13 : Hid (Ek w13 F13 vx [⟨1, 3, ⟨#[47, 97, 47, 98]⟩⟩]) := Evx12.out.moved hmv
  have Evy13 : Hid (Ek w13 F13 vy [⟨2, 4, ⟨#[47, 97]⟩⟩]) := Evy12.out.moved hmv
  have Evz13 : Hid (Ek w13 F13 vz [⟨2, 2, ⟨#[47, 97]⟩⟩]) := Evz12.out.moved hmv
  clear hM hmv
  obtain ⟨gvx, bvx, cvx, evx, vx0, vx1, vx2⟩ := Evx13.out.ev.one
  obtain ⟨gvy, bvy, cvy, evy, vy0, vy1, vy2⟩ := Evy13.out.ev.one
  obtain ⟨gvz, bvz, cvz, evz, vz0, vz1, vz2⟩ := Evz13.out.ev.one
  subst evx evy evz
  clear Evx8 Evx9 Evx10 Evx11 Evx12 Evx13 Evy9 Evy10 Evy11 Evy12 Evy13 Evz11 Evz12 Evz13
  go_wp2_with fail
  refine (M13.out.drop HS.out.1 7 2 ⟨2, []⟩ (by kernel_rfl) (by decide)).mono ?_
  rintro e w14 ⟨F14, rfl, hM, hmv⟩
  have M14 : Hid (Mine13 LW W w14 q ⟨2, []⟩ F14) := hM
  clear hM hmv vx0 vx1 vx2 vy0 vy1 vy2 vz0 vz1 vz2
  go_wp2_with fail
  refine (M14.out.len HS.out.1 0 rfl).mono ?_
  rintro e w15 ⟨rfl, hM, hmv⟩
  have M15 : Hid (Mine13 LW W w15 q ⟨2, []⟩ F14) := hM
  clear hM hmv
  go_wp2_with fail
  refine (M15.out.fire HS.out.1 HS.out.2 ⟨#[47, 97]⟩ 9 (short13 _ (by kernel_rfl)) [] ⟨2, []⟩ (by kernel_rfl) (by kernel_rfl)).mono ?_
  rintro e w16 ⟨F16, v, rfl, hev, hof, hM, hmv⟩
  have M16 : Hid (Mine13 LW W w16 q ⟨2, []⟩ F16) := hM
  obtain ⟨af, cf, hv⟩ := hev.nothing
  subst hv
  clear hM hmv hev hof
  go_wp2
  go_ret
  exact ⟨rfl, M16.out.below⟩
end Go.Proofs.YtjejpkognjedpaaDoor
