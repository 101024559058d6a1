/- What the statements' own awake answers. -/
import Derived.Test.YtphmmdjefpfehaaMine7
import Derived.Lib.SlBytesConst
namespace Go.Proofs.Ytphmmdjefpfehaa
open Go.RowKit

set_option maxRecDepth 20000 in
set_option maxHeartbeats 4000000 in
theorem awake_any7 {LD : Rep} (S : Specs7 LD) (W : World) :
    Calls Try.prog 9 #[] W fun e w' => e = .returned (.bool true) ∧ Below W.heap.size W w' := by
  have HS : Hid (Specs7 LD) := S
  clear S
  have kc := fun (w : World) (C : Array Value) (n c : Nat) => Lib.run_convert_bytes_const (P := Try.prog) w 28 5 C n c Try.underlying28 Try.underlying5
  go_enter Try.func9, Try.ntmps9
  go_wp2_with fail
  refine (mine_new HS.out (Below.refl _ W) 64 (by decide)).mono ?_
  rintro e w1 ⟨q, F1, rfl, hM⟩
  have M1 : Hid (Mine LD W w1 q ⟨64, [], false, 1⟩ F1) := hM
  clear hM
  go_wp2_with fail
  obtain ⟨q2, hq⟩ : ∃ z, z = w1.heap.size := ⟨_, rfl⟩
  rw [← hq]
  have hfr : Mine LD W (w1.alloc (.cells #[.int .u8 120, .int .u8 121] 5 (2, 3))) q ⟨64, [], false, 1⟩ F1 ∧ Bs (w1.alloc (.cells #[.int .u8 120, .int .u8 121] 5 (2, 3))) (.slice (some ⟨q2, 0, none⟩) 2 2) [120, 121] ∧ Apart F1 (.slice (some ⟨q2, 0, none⟩) 2 2) [120, 121] := by rw [hq]; exact Mine.fresh HS.out M1.out [120, 121] 5 _
  generalize w1.alloc (.cells #[.int .u8 120, .int .u8 121] 5 (2, 3)) = w2 at *
  have M2 : Hid (Mine LD W w2 q ⟨64, [], false, 1⟩ F1) := hfr.1
  have L2 : Hid (Bs w2 (.slice (some ⟨q2, 0, none⟩) 2 2) [120, 121] ∧ Apart F1 (.slice (some ⟨q2, 0, none⟩) 2 2) [120, 121]) := hfr.2
  clear hfr hq
  refine (Mine.append HS.out M2.out ⟨#[97]⟩ _ [120, 121] L2.out.1 (by decide) L2.out.2 (by decide) _ _ (Dq.append_new _ (by decide) (by decide))).mono ?_
  rintro e w3 ⟨F3, rfl, hM, hmv⟩
  have M3 : Hid (Mine LD W w3 q ⟨64, [⟨⟨#[97]⟩, [120, 121], 0⟩], false, 1⟩ F3) := hM
  clear hM hmv
  go_wp2_with fail
  refine (Mine.crash HS.out M3.out 1 (by decide) (by decide) _ rfl).mono ?_
  rintro e w4 ⟨F4, rfl, hM, hmv⟩
  have M4 : Hid (Mine LD W w4 q ⟨64, [⟨⟨#[97]⟩, [120], 1⟩], true, 1⟩ F4) := hM
  clear hM hmv
  go_wp2_with fail
  refine (Mine.read HS.out M4.out ⟨#[97]⟩ [] 10 (Dq.read_off _)).mono ?_
  rintro e w5 ⟨F5, v5, rfl, hbs, hap, hM, hmv⟩
  have M5 : Hid (Mine LD W w5 q ⟨64, [⟨⟨#[97]⟩, [120], 1⟩], true, 1⟩ F5) := hM
  clear hM hmv hbs hap
  go_wp2_with fail
  refine (Mine.on HS.out M5.out (by simp) _ rfl).mono ?_
  rintro e w6 ⟨F6, rfl, hM, hmv⟩
  have M6 : Hid (Mine LD W w6 q ⟨64, [⟨⟨#[97]⟩, [120], 1⟩], false, 2⟩ F6) := hM
  clear hM hmv
  go_wp2_with fail
  refine (Mine.read HS.out M6.out ⟨#[97]⟩ [120] 0 (Dq.read_one (by decide))).mono ?_
  rintro e w7 ⟨F7, v7, rfl, hbs, hap, hM, hmv⟩
  have M7 : Hid (Mine LD W w7 q ⟨64, [⟨⟨#[97]⟩, [120], 1⟩], false, 2⟩ F7) := hM
  have XB7 : Hid (Bs w7 v7 [120] ∧ Apart F7 v7 [120]) := ⟨hbs, hap⟩
  clear hM hmv hbs hap
  have hcv : (convert 28 9 v7).run Try.prog w7 = .ok (.string ⟨#[120]⟩) w7 := XB7.out.1.conv
  go_wp2_with fail
  refine (Mine.power HS.out M7.out true rfl).mono ?_
  rintro e w8 ⟨F8, rfl, hM, hmv⟩
  have M8 : Hid (Mine LD W w8 q ⟨64, [⟨⟨#[97]⟩, [120], 1⟩], false, 2⟩ F8) := hM
  have XB8 : Hid (Bs w8 v7 [120] ∧ Apart F8 v7 [120]) := XB7.out.2.moved XB7.out.1 hmv
  clear hM hmv
  clear hcv
  go_wp2_with fail
  refine (Mine.lives HS.out M8.out 2 rfl).mono ?_
  rintro e w9 ⟨F9, rfl, hM, hmv⟩
  have M9 : Hid (Mine LD W w9 q ⟨64, [⟨⟨#[97]⟩, [120], 1⟩], false, 2⟩ F9) := hM
  have XB9 : Hid (Bs w9 v7 [120] ∧ Apart F9 v7 [120]) := XB8.out.2.moved XB8.out.1 hmv
  clear hM hmv
  go_wp2
  go_ret
  exact ⟨rfl, M9.out.below⟩
end Go.Proofs.Ytphmmdjefpfehaa
