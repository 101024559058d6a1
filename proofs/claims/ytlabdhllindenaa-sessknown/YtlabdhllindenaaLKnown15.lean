/- SessKnown's walk. -/
import Derived.Test.YtlabdhllindenaaLAwake15
namespace Go.Proofs.Ytlabdhllindenaa
open Go.RowKit

set_option maxRecDepth 20000 in
set_option maxHeartbeats 8000000 in
theorem known_any15 {LS : Rep15} (S : Specs15 LS) (W : World) :
    Calls Try.prog 3 #[] W fun e w' => e = .returned (.bool true) ∧ Below W.heap.size W w' := by
  have HS : Hid (Specs15 LS) := S
  clear S
  go_enter Try.func3, Try.ntmps3
  go_wp2_with fail
  refine (awake_any15 HS.out W).mono ?_
  rintro e w0 ⟨rfl, hb⟩
  have H0 : Hid (Below W.heap.size W w0) := hb
  clear hb
  go_wp2_with fail
  refine (mine15_no HS.out 0 (by decide) w0).mono ?_
  rintro e w1 ⟨rfl, hb⟩
  have H1 : Hid (Below W.heap.size W w1) := H0.out.trans (hb.mono H0.out.size)
  clear hb H0
  go_wp2_with fail
  refine (mine15_no HS.out 65 (by decide) w1).mono ?_
  rintro e w2 ⟨rfl, hb⟩
  have H2 : Hid (Below W.heap.size W w2) := H1.out.trans (hb.mono H1.out.size)
  clear hb H1
  go_wp2_with fail
  refine (mine15_new HS.out H2.out 1 (by decide)).mono ?_
  rintro e w3 ⟨q, F3, rfl, hM⟩
  have M3 : Hid (Mine15 LS W w3 q 1 (Sq.new 1) F3) := hM
  clear hM H2
  go_wp2_with fail
  refine (M3.out.opn HS.out (by decide) 0 0 1 ⟨1, 0, 1, []⟩ (by kernel_rfl)).mono ?_
  rintro e w4 ⟨F4, rfl, hM, hmv⟩
  have M4 : Hid (Mine15 LS W w4 q 2 ⟨1, 0, 1, []⟩ F4) := hM
  clear hM hmv M3
  go_wp2_with fail
  refine (M4.out.opn HS.out (by decide) 3 1 0 ⟨1, 0, 2, [⟨1, 3, 3⟩]⟩ (by kernel_rfl)).mono ?_
  rintro e w5 ⟨F5, rfl, hM, hmv⟩
  have M5 : Hid (Mine15 LS W w5 q 3 ⟨1, 0, 2, [⟨1, 3, 3⟩]⟩ F5) := hM
  clear hM hmv M4
  go_wp2_with fail
  refine (M5.out.opn HS.out (by decide) 3 0 9 ⟨1, 0, 2, [⟨1, 3, 3⟩]⟩ (by kernel_rfl)).mono ?_
  rintro e w6 ⟨F6, rfl, hM, hmv⟩
  have M6 : Hid (Mine15 LS W w6 q 4 ⟨1, 0, 2, [⟨1, 3, 3⟩]⟩ F6) := hM
  clear hM hmv M5
  go_wp2_with fail
  refine (M6.out.tick HS.out (by decide) [] ⟨1, 1, 2, [⟨1, 3, 3⟩]⟩ (by kernel_rfl) (by kernel_rfl)).mono ?_
  rintro e w7 ⟨F7, va, rfl, hia, hoa, hM, hmv⟩
  have M7 : Hid (Mine15 LS W w7 q 5 ⟨1, 1, 2, [⟨1, 3, 3⟩]⟩ F7) := hM
  obtain ⟨a3, n3, c3, rfl, hn3, hc3⟩ := hia
  clear hM hmv M6 hoa hn3 hc3
  go_wp2_with fail
  refine (M7.out.touch HS.out (by decide) 1 0 ⟨1, 1, 2, [⟨1, 3, 4⟩]⟩ (by kernel_rfl)).mono ?_
  rintro e w8 ⟨F8, rfl, hM, hmv⟩
  have M8 : Hid (Mine15 LS W w8 q 5 ⟨1, 1, 2, [⟨1, 3, 4⟩]⟩ F8) := hM
  clear hM hmv M7
  go_wp2_with fail
  refine (M8.out.touch HS.out (by decide) 2 11 ⟨1, 1, 2, [⟨1, 3, 4⟩]⟩ (by kernel_rfl)).mono ?_
  rintro e w9 ⟨F9, rfl, hM, hmv⟩
  have M9 : Hid (Mine15 LS W w9 q 5 ⟨1, 1, 2, [⟨1, 3, 4⟩]⟩ F9) := hM
  clear hM hmv M8
  go_wp2_with fail
  refine (M9.out.tick HS.out (by decide) [] ⟨1, 2, 2, [⟨1, 3, 4⟩]⟩ (by kernel_rfl) (by kernel_rfl)).mono ?_
  rintro e w10 ⟨F10, va, rfl, hia, hoa, hM, hmv⟩
  have M10 : Hid (Mine15 LS W w10 q 6 ⟨1, 2, 2, [⟨1, 3, 4⟩]⟩ F10) := hM
  obtain ⟨a3, n3, c3, rfl, hn3, hc3⟩ := hia
  clear hM hmv M9 hoa hn3 hc3
  go_wp2_with fail
  refine (M10.out.tick HS.out (by decide) [] ⟨1, 3, 2, [⟨1, 3, 4⟩]⟩ (by kernel_rfl) (by kernel_rfl)).mono ?_
  rintro e w11 ⟨F11, va, rfl, hia, hoa, hM, hmv⟩
  have M11 : Hid (Mine15 LS W w11 q 7 ⟨1, 3, 2, [⟨1, 3, 4⟩]⟩ F11) := hM
  obtain ⟨a3, n3, c3, rfl, hn3, hc3⟩ := hia
  clear hM hmv M10 hoa hn3 hc3
  go_wp2_with fail
  refine (M11.out.live HS.out 1 true (by kernel_rfl)).mono ?_
  rintro e w12 ⟨rfl, hM, hb⟩
  have M12 : Hid (Mine15 LS W w12 q 7 ⟨1, 3, 2, [⟨1, 3, 4⟩]⟩ F11) := hM
  clear hM hb M11
  obtain ⟨F12, hF9⟩ : ∃ F, F = F11 := ⟨_, rfl⟩
  rw [← hF9] at M12
  clear hF9
  go_wp2_with fail
  refine (M12.out.close HS.out (by decide) 1 0 ⟨1, 3, 2, []⟩ (by kernel_rfl)).mono ?_
  rintro e w13 ⟨F13, rfl, hM, hmv⟩
  have M13 : Hid (Mine15 LS W w13 q 7 ⟨1, 3, 2, []⟩ F13) := hM
  clear hM hmv M12
  go_wp2_with fail
  refine (M13.out.close HS.out (by decide) 1 11 ⟨1, 3, 2, []⟩ (by kernel_rfl)).mono ?_
  rintro e w14 ⟨F14, rfl, hM, hmv⟩
  have M14 : Hid (Mine15 LS W w14 q 7 ⟨1, 3, 2, []⟩ F14) := hM
  clear hM hmv M13
  go_wp2_with fail
  refine (M14.out.opn HS.out (by decide) 3 2 0 ⟨1, 3, 3, [⟨2, 3, 6⟩]⟩ (by kernel_rfl)).mono ?_
  rintro e w15 ⟨F15, rfl, hM, hmv⟩
  have M15 : Hid (Mine15 LS W w15 q 8 ⟨1, 3, 3, [⟨2, 3, 6⟩]⟩ F15) := hM
  clear hM hmv M14
  go_wp2_with fail
  refine (mine15_getno HS.out (.slice none 0 0) [] w15 (Bs.nil _) (by decide) (by kernel_rfl)).mono ?_
  rintro e w16 ⟨rfl, hb⟩
  have H16 : Hid (Below W.heap.size W w16) := M15.out.below.trans (hb.mono M15.out.below.size)
  clear hb M15
  go_wp2
  go_ret
  exact ⟨rfl, H16.out⟩
end Go.Proofs.Ytlabdhllindenaa
