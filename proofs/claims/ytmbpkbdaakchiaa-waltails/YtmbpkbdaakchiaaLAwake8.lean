/- What the statements' own awake answers. -/
import Derived.Test.YtmbpkbdaakchiaaDuo8
import Derived.Lib.SlBytesConst
namespace Go.Proofs.Ytmbpkbdaakchiaa
open Go.RowKit

set_option maxRecDepth 20000 in
set_option maxHeartbeats 4000000 in
theorem awake_any8 {LD : Rep} {LG : RepG} (S7 : Specs7 LD) (S : Specs8 LD LG) (W : World) :
    Calls Try.prog 8 #[] W fun e w' => e = .returned (.bool true) ∧ Below W.heap.size W w' := by
  have H7 : Hid (Specs7 LD) := S7
  have HS : Hid (Specs8 LD LG) := S
  clear S7 S
  have kc := fun (w : World) (C : Array Value) (n c : Nat) => Lib.run_convert_bytes_const (P := Try.prog) w 31 5 C n c Try.underlying31 Try.underlying5
  go_enter Try.func8, Try.ntmps8
  go_wp2_with fail
  refine (mine_new H7.out (Below.refl _ W) 1000 (by decide)).mono ?_
  rintro e w1 ⟨qd, F1, rfl, hM⟩
  have M1 : Hid (Mine LD W w1 qd ⟨1000, Wq.Fs [] false (Fr.frames []) 0, false, 1⟩ F1) := hM
  clear hM
  go_wp2_with fail
  refine (Mine.opn HS.out M1.out (roomy_fs (by decide) (by simp)) (Wq.opn_none (Or.inl ⟨rfl, rfl⟩))).mono ?_
  rintro e w2 ⟨ql, F2, G2, rfl, hD, hmv, hnw⟩
  have D2 : Hid (Duo LD LG W w2 qd ⟨1000, Wq.Fs [] false (Fr.frames []) 0, false, 1⟩ F2 ql ⟨1, [], 1, false⟩ G2) := hD
  clear hD hmv hnw
  go_wp2_with fail
  obtain ⟨q3, hq⟩ : ∃ z, z = w2.heap.size := ⟨_, rfl⟩
  rw [← hq]
  have hfr : Duo LD LG W (w2.alloc (.cells #[.int .u8 120] 5 (1, 2))) qd ⟨1000, Wq.Fs [] false (Fr.frames []) 0, false, 1⟩ F2 ql ⟨1, [], 1, false⟩ G2 ∧ Bs (w2.alloc (.cells #[.int .u8 120] 5 (1, 2))) (.slice (some ⟨q3, 0, none⟩) 1 1) [120] ∧ Apart F2 (.slice (some ⟨q3, 0, none⟩) 1 1) [120] ∧ Apart G2 (.slice (some ⟨q3, 0, none⟩) 1 1) [120] := by rw [hq]; exact Duo.fresh H7.out HS.out D2.out [120] 5 _
  generalize w2.alloc (.cells #[.int .u8 120] 5 (1, 2)) = w3 at *
  obtain ⟨F3, G3, hFG⟩ : ∃ F3 G3 : Nat → Prop, F3 = F2 ∧ G3 = G2 := ⟨_, _, rfl, rfl⟩
  rw [← hFG.1, ← hFG.2] at hfr
  have D3 : Hid (Duo LD LG W w3 qd ⟨1000, Wq.Fs [] false (Fr.frames []) 0, false, 1⟩ F3 ql ⟨1, [], 1, false⟩ G3) := hfr.1
  have L3 : Hid (Bs w3 (.slice (some ⟨q3, 0, none⟩) 1 1) [120] ∧ Apart F3 (.slice (some ⟨q3, 0, none⟩) 1 1) [120] ∧ Apart G3 (.slice (some ⟨q3, 0, none⟩) 1 1) [120]) := hfr.2
  clear hfr hq hFG
  refine (Duo.add HS.out D3.out (roomy_fs (by decide) (by simp)) (by simp) (.slice (some ⟨q3, 0, none⟩) 1 1) [120] L3.out.1 (by decide) L3.out.2.1 L3.out.2.2 _ _ _ (Wq.add_fs (Wq.BaseIs.low (n := 1) (Or.inl ⟨rfl, rfl⟩)) (fun _ => ⟨rfl, rfl⟩) (by decide) (by decide)) (by simp [Wq.off])).mono ?_
  rintro e w4 ⟨F4, G4, rfl, hD, hmv⟩
  have D4 : Hid (Duo LD LG W w4 qd ⟨1000, Wq.Fs [] true (Fr.frames [[120]]) 0, false, 1⟩ F4 ql ⟨1, [[120]], 1, false⟩ G4) := hD
  clear hD hmv
  go_wp2_with fail
  obtain ⟨q5, hq⟩ : ∃ z, z = w4.heap.size := ⟨_, rfl⟩
  rw [← hq]
  have hfr : Duo LD LG W (w4.alloc (.cells #[.int .u8 121] 5 (1, 2))) qd ⟨1000, Wq.Fs [] true (Fr.frames [[120]]) 0, false, 1⟩ F4 ql ⟨1, [[120]], 1, false⟩ G4 ∧ Bs (w4.alloc (.cells #[.int .u8 121] 5 (1, 2))) (.slice (some ⟨q5, 0, none⟩) 1 1) [121] ∧ Apart F4 (.slice (some ⟨q5, 0, none⟩) 1 1) [121] ∧ Apart G4 (.slice (some ⟨q5, 0, none⟩) 1 1) [121] := by rw [hq]; exact Duo.fresh H7.out HS.out D4.out [121] 5 _
  generalize w4.alloc (.cells #[.int .u8 121] 5 (1, 2)) = w5 at *
  obtain ⟨F5, G5, hFG⟩ : ∃ F5 G5 : Nat → Prop, F5 = F4 ∧ G5 = G4 := ⟨_, _, rfl, rfl⟩
  rw [← hFG.1, ← hFG.2] at hfr
  have D5 : Hid (Duo LD LG W w5 qd ⟨1000, Wq.Fs [] true (Fr.frames [[120]]) 0, false, 1⟩ F5 ql ⟨1, [[120]], 1, false⟩ G5) := hfr.1
  have L5 : Hid (Bs w5 (.slice (some ⟨q5, 0, none⟩) 1 1) [121] ∧ Apart F5 (.slice (some ⟨q5, 0, none⟩) 1 1) [121] ∧ Apart G5 (.slice (some ⟨q5, 0, none⟩) 1 1) [121]) := hfr.2
  clear hfr hq hFG
  refine (Duo.add HS.out D5.out (roomy_fs (by decide) (by simp)) (by simp) (.slice (some ⟨q5, 0, none⟩) 1 1) [121] L5.out.1 (by decide) L5.out.2.1 L5.out.2.2 _ _ _ (Wq.add_fs (Wq.BaseIs.low (n := 1) (Or.inl ⟨rfl, rfl⟩)) (fun h => by cases h) (by decide) (by decide)) (by simp [Wq.off])).mono ?_
  rintro e w6 ⟨F6, G6, rfl, hD, hmv⟩
  have D6 : Hid (Duo LD LG W w6 qd ⟨1000, Wq.Fs [] true (Fr.frames [[120], [121]]) 0, false, 1⟩ F6 ql ⟨1, [[120], [121]], 1, false⟩ G6) := hD
  clear hD hmv
  go_wp2_with fail
  refine (Duo.sync HS.out D6.out (roomy_fs (by decide) (by simp))  _ _ _ (Wq.sync_fs (Wq.BaseIs.low (n := 1) (Or.inl ⟨rfl, rfl⟩))) (by simp [Wq.off])).mono ?_
  rintro e w7 ⟨F7, G7, rfl, hD, hmv⟩
  have D7 : Hid (Duo LD LG W w7 qd ⟨1000, Wq.Fs [] true (Fr.frames [[120], [121]]) (Fr.frames [[120], [121]]).length, false, 1⟩ F7 ql ⟨1, [[120], [121]], 1, false⟩ G7) := hD
  clear hD hmv
  go_wp2_with fail
  refine (Duo.crash H7.out HS.out D7.out 0 (by decide) (by decide) _ (Wq.crash_synced (Wq.BaseIs.safe (n := 1) (Or.inl ⟨rfl, rfl⟩)) _ _)).mono ?_
  rintro e w8 ⟨F8, rfl, hD, hmv⟩
  obtain ⟨G8, hFG⟩ : ∃ z : Nat → Prop, z = G7 := ⟨_, rfl⟩
  rw [← hFG] at hD
  have D8 : Hid (Duo LD LG W w8 qd ⟨1000, Wq.Fs [] true (Fr.frames [[120], [121]]) (Fr.frames [[120], [121]]).length, true, 1⟩ F8 ql ⟨1, [[120], [121]], 1, false⟩ G8) := hD
  clear hD hmv hFG
  go_wp2_with fail
  refine (Duo.on H7.out HS.out D8.out (by simp) _ rfl).mono ?_
  rintro e w9 ⟨F9, rfl, hD, hmv⟩
  obtain ⟨G9, hFG⟩ : ∃ z : Nat → Prop, z = G8 := ⟨_, rfl⟩
  rw [← hFG] at hD
  have D9 : Hid (Duo LD LG W w9 qd ⟨1000, Wq.Fs [] true (Fr.frames [[120], [121]]) (Fr.frames [[120], [121]]).length, false, 2⟩ F9 ql ⟨1, [[120], [121]], 1, false⟩ G9) := hD
  clear hD hmv hFG
  go_wp2_with fail
  refine (Mine.opn HS.out D9.out.mine (roomy_fs (by decide) (by simp)) (Wq.opn_whole (Or.inl ⟨rfl, rfl⟩) (by decide))).mono ?_
  rintro e w10 ⟨qm, F10, G10, rfl, hD, hmv, hnw⟩
  have D10 : Hid (Duo LD LG W w10 qd ⟨1000, Wq.Fs [] true (Fr.frames [[120], [121]]) (Fr.frames [[120], [121]]).length, false, 2⟩ F10 qm ⟨1, [[120], [121]], 2, false⟩ G10) := hD
  clear hD hmv hnw
  go_wp2_with fail
  refine (Duo.at_ HS.out D10.out (roomy_fs (by decide) (by simp)) 2 (by decide) (by decide) [121] 0 (Wq.at_fs 1 (by decide) rfl) (by simp [Wq.off])).mono ?_
  rintro e w11 ⟨F11, G11, v11, rfl, hbs, hap, hD, hmv⟩
  have D11 : Hid (Duo LD LG W w11 qd ⟨1000, Wq.Fs [] true (Fr.frames [[120], [121]]) (Fr.frames [[120], [121]]).length, false, 2⟩ F11 qm ⟨1, [[120], [121]], 2, false⟩ G11) := hD
  have XB11 : Hid (Bs w11 v11 [121] ∧ Apart (both F11 G11) v11 [121]) := ⟨hbs, hap⟩
  clear hD hmv hbs hap
  go_wp2_with fail
  refine (Duo.first H7.out HS.out D11.out 1 rfl).mono ?_
  rintro e w12 ⟨rfl, hD, hb⟩
  obtain ⟨F12, G12, hFG⟩ : ∃ F12 G12 : Nat → Prop, F12 = F11 ∧ G12 = G11 := ⟨_, _, rfl, rfl⟩
  rw [← hFG.1, ← hFG.2] at hD
  have D12 : Hid (Duo LD LG W w12 qd ⟨1000, Wq.Fs [] true (Fr.frames [[120], [121]]) (Fr.frames [[120], [121]]).length, false, 2⟩ F12 qm ⟨1, [[120], [121]], 2, false⟩ G12) := hD
  have XB12 : Hid (Bs w12 v11 [121] ∧ Apart (both F12 G12) v11 [121]) := by rw [hFG.1, hFG.2]; exact XB11.out.2.later XB11.out.1 hb
  clear hD hb hFG
  go_wp2_with fail
  refine (Duo.next H7.out HS.out D12.out 3 rfl).mono ?_
  rintro e w13 ⟨rfl, hD, hb⟩
  obtain ⟨F13, G13, hFG⟩ : ∃ F13 G13 : Nat → Prop, F13 = F12 ∧ G13 = G12 := ⟨_, _, rfl, rfl⟩
  rw [← hFG.1, ← hFG.2] at hD
  have D13 : Hid (Duo LD LG W w13 qd ⟨1000, Wq.Fs [] true (Fr.frames [[120], [121]]) (Fr.frames [[120], [121]]).length, false, 2⟩ F13 qm ⟨1, [[120], [121]], 2, false⟩ G13) := hD
  have XB13 : Hid (Bs w13 v11 [121] ∧ Apart (both F13 G13) v11 [121]) := by rw [hFG.1, hFG.2]; exact XB12.out.2.later XB12.out.1 hb
  clear hD hb hFG
  have hcv : (convert 31 9 v11).run Try.prog w13 = .ok (.string ⟨#[121]⟩) w13 := XB13.out.1.conv
  go_wp2
  go_ret
  exact ⟨rfl, D13.out.mine.below⟩
end Go.Proofs.Ytmbpkbdaakchiaa
