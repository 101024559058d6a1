/- What DiskKnown answers. -/
import Derived.Test.YtphmmdjefpfehaaLAwake7
namespace Go.Proofs.Ytphmmdjefpfehaa
open Go.RowKit

set_option maxRecDepth 20000 in
set_option maxHeartbeats 4000000 in
theorem known_any7 {LD : Rep} (S : Specs7 LD) (W : World) :
    Calls Try.prog 3 #[] W fun e w' => e = .returned (.bool true) ∧ Below W.heap.size W w' := by
  have HS : Hid (Specs7 LD) := S
  clear S
  have kc := fun (w : World) (C : Array Value) (n c : Nat) => Lib.run_convert_bytes_const (P := Try.prog) w 28 5 C n c Try.underlying28 Try.underlying5
  go_enter Try.func3, Try.ntmps3
  go_wp2_with fail
  refine (awake_any7 HS.out W).mono ?_
  rintro e w0 ⟨rfl, hb⟩
  have B0 : Hid (Below W.heap.size W w0) := hb
  clear hb
  go_wp2_with fail
  refine (mine_none HS.out B0.out 63 (by decide)).mono ?_
  rintro e wn ⟨rfl, hb⟩
  have BN : Hid (Below W.heap.size W wn) := hb
  clear hb
  go_wp2_with fail
  refine (mine_new HS.out BN.out 64 (by decide)).mono ?_
  rintro e w1 ⟨q, F1, rfl, hM⟩
  have M1 : Hid (Mine LD W w1 q ⟨64, [], false, 1⟩ F1) := hM
  clear hM
  go_wp2_with fail
  refine (Mine.append HS.out M1.out ⟨#[]⟩ _ [] (Bs.nil _) (by decide) (fun h => absurd h (by decide)) (by decide) _ _ rfl).mono ?_
  rintro e w2 ⟨F2, rfl, hM, hmv⟩
  have M2 : Hid (Mine LD W w2 q ⟨64, [], false, 1⟩ F2) := hM
  clear hM hmv
  go_wp2_with (at_make; refine make_bytes rfl _ _ rfl 65 _ rfl rfl (by decide) ?_)
  intro wm hown hbm
  obtain ⟨qm, hqm⟩ : ∃ z, z = w2.heap.size := ⟨_, rfl⟩
  rw [← hqm] at hown ⊢
  have MM : Hid (Mine LD W wm q ⟨64, [], false, 1⟩ F2) := M2.out.later HS.out hbm
  have LM : Hid (Bs wm (.slice (some ⟨qm, 0, none⟩) 65 65) (List.replicate 65 0) ∧ Apart F2 (.slice (some ⟨qm, 0, none⟩) 65 65) (List.replicate 65 0)) := by
    refine ⟨Bs.own hown, fun _ z hz hF => ?_⟩
    have := HS.out.lt M2.out.ld hF
    simp only [Value.ownBlock, Option.some.injEq] at hz
    omega
  clear hown hbm hqm
  have M3 : Hid (Mine LD W wm q ⟨64, [], false, 1⟩ F2) := MM.out
  clear MM
  go_wp2_with fail
  refine (Mine.append HS.out M3.out ⟨#[97]⟩ _ (List.replicate 65 0) LM.out.1 (by decide) LM.out.2 (by decide) _ _ rfl).mono ?_
  rintro e w4 ⟨F4, rfl, hM, hmv⟩
  have M4 : Hid (Mine LD W w4 q ⟨64, [], false, 1⟩ F4) := hM
  clear hM hmv
  go_wp2_with fail
  refine (Mine.sync HS.out M4.out ⟨#[97]⟩ _ _ rfl).mono ?_
  rintro e w5 ⟨F5, rfl, hM, hmv⟩
  have M5 : Hid (Mine LD W w5 q ⟨64, [], false, 1⟩ F5) := hM
  clear hM hmv
  go_wp2_with fail
  obtain ⟨q6, hq⟩ : ∃ z, z = w5.heap.size := ⟨_, rfl⟩
  rw [← hq]
  have hfr : Mine LD W (w5.alloc (.cells #[.int .u8 111, .int .u8 110, .int .u8 101] 5 (3, 4))) q ⟨64, [], false, 1⟩ F5 ∧ Bs (w5.alloc (.cells #[.int .u8 111, .int .u8 110, .int .u8 101] 5 (3, 4))) (.slice (some ⟨q6, 0, none⟩) 3 3) [111, 110, 101] ∧ Apart F5 (.slice (some ⟨q6, 0, none⟩) 3 3) [111, 110, 101] := by rw [hq]; exact Mine.fresh HS.out M5.out [111, 110, 101] 5 _
  generalize w5.alloc (.cells #[.int .u8 111, .int .u8 110, .int .u8 101] 5 (3, 4)) = w6 at *
  have M6 : Hid (Mine LD W w6 q ⟨64, [], false, 1⟩ F5) := hfr.1
  have L6 : Hid (Bs w6 (.slice (some ⟨q6, 0, none⟩) 3 3) [111, 110, 101] ∧ Apart F5 (.slice (some ⟨q6, 0, none⟩) 3 3) [111, 110, 101]) := hfr.2
  clear hfr hq
  refine (Mine.append HS.out M6.out ⟨#[97]⟩ _ [111, 110, 101] L6.out.1 (by decide) L6.out.2 (by decide) _ _ (Dq.append_new _ (by decide) (by decide))).mono ?_
  rintro e w7 ⟨F7, rfl, hM, hmv⟩
  have M7 : Hid (Mine LD W w7 q ⟨64, [⟨⟨#[97]⟩, [111, 110, 101], 0⟩], false, 1⟩ F7) := hM
  clear hM hmv
  go_wp2_with fail
  refine (Mine.sync HS.out M7.out ⟨#[97]⟩ _ _ (Dq.sync_one (by decide))).mono ?_
  rintro e w8 ⟨F8, rfl, hM, hmv⟩
  have M8 : Hid (Mine LD W w8 q ⟨64, [⟨⟨#[97]⟩, [111, 110, 101], 3⟩], false, 1⟩ F8) := hM
  clear hM hmv
  go_wp2_with fail
  obtain ⟨q9, hq⟩ : ∃ z, z = w8.heap.size := ⟨_, rfl⟩
  rw [← hq]
  have hfr : Mine LD W (w8.alloc (.cells #[.int .u8 116, .int .u8 119, .int .u8 111] 5 (3, 4))) q ⟨64, [⟨⟨#[97]⟩, [111, 110, 101], 3⟩], false, 1⟩ F8 ∧ Bs (w8.alloc (.cells #[.int .u8 116, .int .u8 119, .int .u8 111] 5 (3, 4))) (.slice (some ⟨q9, 0, none⟩) 3 3) [116, 119, 111] ∧ Apart F8 (.slice (some ⟨q9, 0, none⟩) 3 3) [116, 119, 111] := by rw [hq]; exact Mine.fresh HS.out M8.out [116, 119, 111] 5 _
  generalize w8.alloc (.cells #[.int .u8 116, .int .u8 119, .int .u8 111] 5 (3, 4)) = w9 at *
  have M9 : Hid (Mine LD W w9 q ⟨64, [⟨⟨#[97]⟩, [111, 110, 101], 3⟩], false, 1⟩ F8) := hfr.1
  have L9 : Hid (Bs w9 (.slice (some ⟨q9, 0, none⟩) 3 3) [116, 119, 111] ∧ Apart F8 (.slice (some ⟨q9, 0, none⟩) 3 3) [116, 119, 111]) := hfr.2
  clear hfr hq
  refine (Mine.append HS.out M9.out ⟨#[97]⟩ _ [116, 119, 111] L9.out.1 (by decide) L9.out.2 (by decide) _ _ (Dq.append_one _ (by decide) (by decide))).mono ?_
  rintro e w10 ⟨F10, rfl, hM, hmv⟩
  have M10 : Hid (Mine LD W w10 q ⟨64, [⟨⟨#[97]⟩, [111, 110, 101, 116, 119, 111], 3⟩], false, 1⟩ F10) := hM
  clear hM hmv
  go_wp2_with fail
  refine (Mine.rename HS.out M10.out ⟨#[97]⟩ ⟨#[98]⟩ (by decide) _ _ rfl).mono ?_
  rintro e w11 ⟨F11, rfl, hM, hmv⟩
  have M11 : Hid (Mine LD W w11 q ⟨64, [⟨⟨#[98]⟩, [111, 110, 101, 116, 119, 111], 3⟩], false, 1⟩ F11) := hM
  clear hM hmv
  go_wp2_with fail
  refine (Mine.cut HS.out M11.out ⟨#[98]⟩ 7 _ _ rfl).mono ?_
  rintro e w12 ⟨F12, rfl, hM, hmv⟩
  have M12 : Hid (Mine LD W w12 q ⟨64, [⟨⟨#[98]⟩, [111, 110, 101, 116, 119, 111], 3⟩], false, 1⟩ F12) := hM
  clear hM hmv
  go_wp2_with fail
  refine (Mine.crash HS.out M12.out (-5) (by decide) (by decide) _ rfl).mono ?_
  rintro e w13 ⟨F13, rfl, hM, hmv⟩
  have M13 : Hid (Mine LD W w13 q ⟨64, [⟨⟨#[98]⟩, [111, 110, 101], 3⟩], true, 1⟩ F13) := hM
  clear hM hmv
  go_wp2_with fail
  refine (Mine.on HS.out M13.out (by simp) _ rfl).mono ?_
  rintro e w14 ⟨F14, rfl, hM, hmv⟩
  have M14 : Hid (Mine LD W w14 q ⟨64, [⟨⟨#[98]⟩, [111, 110, 101], 3⟩], false, 2⟩ F14) := hM
  clear hM hmv
  go_wp2_with fail
  refine (Mine.read HS.out M14.out ⟨#[98]⟩ [111, 110, 101] 0 (Dq.read_one (by decide))).mono ?_
  rintro e w15 ⟨F15, v15, rfl, hbs, hap, hM, hmv⟩
  have M15 : Hid (Mine LD W w15 q ⟨64, [⟨⟨#[98]⟩, [111, 110, 101], 3⟩], false, 2⟩ F15) := hM
  have XX15 : Hid (Bs w15 v15 [111, 110, 101] ∧ Apart F15 v15 [111, 110, 101]) := ⟨hbs, hap⟩
  clear hM hmv hbs hap
  go_wp2_with fail
  refine (Mine.cut HS.out M15.out ⟨#[98]⟩ 2 _ _ rfl).mono ?_
  rintro e w16 ⟨F16, rfl, hM, hmv⟩
  have M16 : Hid (Mine LD W w16 q ⟨64, [⟨⟨#[98]⟩, [111, 110], 2⟩], false, 2⟩ F16) := hM
  have XX16 : Hid (Bs w16 v15 [111, 110, 101] ∧ Apart F16 v15 [111, 110, 101]) := XX15.out.2.moved XX15.out.1 hmv
  clear hM hmv
  go_wp2_with fail
  refine (Mine.drop HS.out M16.out ⟨#[98]⟩ _ _ rfl).mono ?_
  rintro e w17 ⟨F17, rfl, hM, hmv⟩
  have M17 : Hid (Mine LD W w17 q ⟨64, [], false, 2⟩ F17) := hM
  have XX17 : Hid (Bs w17 v15 [111, 110, 101] ∧ Apart F17 v15 [111, 110, 101]) := XX16.out.2.moved XX16.out.1 hmv
  clear hM hmv
  have hcv : (convert 28 9 v15).run Try.prog w17 = .ok (.string ⟨#[111, 110, 101]⟩) w17 := XX17.out.1.conv
  go_wp2_with fail
  refine (Mine.size HS.out M17.out 0 rfl).mono ?_
  rintro e w18 ⟨F18, rfl, hM, hmv⟩
  have M18 : Hid (Mine LD W w18 q ⟨64, [], false, 2⟩ F18) := hM
  have XX18 : Hid (Bs w18 v15 [111, 110, 101] ∧ Apart F18 v15 [111, 110, 101]) := XX17.out.2.moved XX17.out.1 hmv
  clear hM hmv
  clear hcv
  go_wp2_with fail
  refine (Mine.names HS.out M18.out [] rfl).mono ?_
  rintro e w19 ⟨F19, v19, rfl, hss, hM, hmv⟩
  have M19 : Hid (Mine LD W w19 q ⟨64, [], false, 2⟩ F19) := hM
  have XX19 : Hid (Bs w19 v15 [111, 110, 101] ∧ Apart F19 v15 [111, 110, 101]) := XX18.out.2.moved XX18.out.1 hmv
  clear hM hmv
  obtain ⟨av, kk, cc, rfl, hkk, hxx⟩ := hss
  obtain rfl : kk = 0 := hkk
  clear hxx
  go_wp2
  go_ret
  exact ⟨rfl, M19.out.below⟩
end Go.Proofs.Ytphmmdjefpfehaa
