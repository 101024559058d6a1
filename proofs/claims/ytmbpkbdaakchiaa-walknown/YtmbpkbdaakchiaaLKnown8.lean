/- What WalKnown answers. -/
import Derived.Test.YtmbpkbdaakchiaaLAwake8
namespace Go.Proofs.Ytmbpkbdaakchiaa
open Go.RowKit

set_option maxRecDepth 20000 in
set_option maxHeartbeats 4000000 in
theorem known_any8 {LD : Rep} {LG : RepG} (S7 : Specs7 LD) (S : Specs8 LD LG) (W : World) :
    Calls Try.prog 3 #[] W fun e w' => e = .returned (.bool true) ∧ Below W.heap.size W w' := by
  have H7 : Hid (Specs7 LD) := S7
  have HS : Hid (Specs8 LD LG) := S
  clear S7 S
  have kc := fun (w : World) (C : Array Value) (n c : Nat) => Lib.run_convert_bytes_const (P := Try.prog) w 31 5 C n c Try.underlying31 Try.underlying5
  go_enter Try.func3, Try.ntmps3
  go_wp2_with fail
  refine (awake_any8 H7.out HS.out W).mono ?_
  rintro e w0 ⟨rfl, hb⟩
  have B0 : Hid (Below W.heap.size W w0) := hb
  clear hb
  go_wp2_with fail
  refine (mine_new H7.out B0.out 65536 (by decide)).mono ?_
  rintro e w1 ⟨qd, F1, rfl, hM⟩
  have M1 : Hid (Mine LD W w1 qd ⟨65536, Wq.Fs [] false (Fr.frames []) 0, false, 1⟩ F1) := hM
  clear hM
  go_wp2_with fail
  refine (Mine.opn HS.out M1.out (roomy_fs (by decide) (by simp)) (Wq.opn_none (Or.inl ⟨rfl, rfl⟩))).mono ?_
  rintro e w2 ⟨ql, F2, G2, rfl, hD, hmv, hnw⟩
  have D2 : Hid (Duo LD LG W w2 qd ⟨65536, Wq.Fs [] false (Fr.frames []) 0, false, 1⟩ F2 ql ⟨1, [], 1, false⟩ G2) := hD
  clear hD hmv hnw
  go_wp2_with (at_make; refine make_some rfl _ _ rfl 20001 _ rfl rfl (by decide) ?_)
  intro w3 xs hxs hx0 hown hbm
  have hap := D2.out.made H7.out HS.out hown
  have hbs := Bs.own hown
  obtain ⟨qm, hqm⟩ : ∃ z, z = w2.heap.size := ⟨_, rfl⟩
  rw [← hqm] at hap hbs ⊢
  have HXL : Hid (xs.length = 20001) := hxs
  obtain ⟨F3, G3, hFG⟩ : ∃ F3 G3 : Nat → Prop, F3 = F2 ∧ G3 = G2 := ⟨_, _, rfl, rfl⟩
  have D3 : Hid (Duo LD LG W w3 qd ⟨65536, Wq.Fs [] false (Fr.frames []) 0, false, 1⟩ F3 ql ⟨1, [], 1, false⟩ G3) := by rw [hFG.1, hFG.2]; exact D2.out.later H7.out HS.out hbm
  have L3 : Hid (Bs w3 (.slice (some ⟨qm, 0, none⟩) 20001 20001) xs ∧ Apart F3 (.slice (some ⟨qm, 0, none⟩) 20001 20001) xs ∧ Apart G3 (.slice (some ⟨qm, 0, none⟩) 20001 20001) xs) := by
    rw [hFG.1, hFG.2]
    exact ⟨hbs, hap⟩
  clear hown hbm hqm hFG hxs hx0 hap hbs
  go_wp2_with fail
  refine (Duo.add HS.out D3.out (roomy_fs (by decide) (by simp)) (by simp) (.slice (some ⟨qm, 0, none⟩) 20001 20001) xs L3.out.1 (by rw [HXL.out]; decide) L3.out.2.1 L3.out.2.2 _ _ _ (Wq.add_long (by simp [Wq.off]) (by rw [HXL.out]; decide)) (by simp [Wq.off])).mono ?_
  rintro e w4 ⟨F4, G4, rfl, hD, hmv⟩
  have D4 : Hid (Duo LD LG W w4 qd ⟨65536, Wq.Fs [] false (Fr.frames []) 0, false, 1⟩ F4 ql ⟨1, [], 1, false⟩ G4) := hD
  clear hD hmv
  go_wp2_with fail
  refine (Duo.at_ HS.out D4.out (roomy_fs (by decide) (by simp)) 1 (by decide) (by decide) [] 4 (Wq.at_none (by decide)) (by simp [Wq.off])).mono ?_
  rintro e w5 ⟨F5, G5, v5, rfl, hbs, hap, hD, hmv⟩
  have D5 : Hid (Duo LD LG W w5 qd ⟨65536, Wq.Fs [] false (Fr.frames []) 0, false, 1⟩ F5 ql ⟨1, [], 1, false⟩ G5) := hD
  clear hD hmv hbs hap
  go_wp2_with fail
  refine (Duo.cutTo HS.out D5.out (roomy_fs (by decide) (by simp)) 2 (by decide) (by decide) _ _ _ (Wq.cutTo_no (by simp [Wq.off]) (by decide)) (by simp [Wq.off])).mono ?_
  rintro e w6 ⟨F6, G6, rfl, hD, hmv⟩
  have D6 : Hid (Duo LD LG W w6 qd ⟨65536, Wq.Fs [] false (Fr.frames []) 0, false, 1⟩ F6 ql ⟨1, [], 1, false⟩ G6) := hD
  clear hD hmv
  go_wp2_with fail
  refine (Duo.restart HS.out D6.out (roomy_fs (by decide) (by simp)) 0 (by decide) (by decide) _ _ _ (Wq.restart_no (by simp [Wq.off]) (by decide)) (by simp [Wq.off])).mono ?_
  rintro e w7 ⟨F7, G7, rfl, hD, hmv⟩
  have D7 : Hid (Duo LD LG W w7 qd ⟨65536, Wq.Fs [] false (Fr.frames []) 0, false, 1⟩ F7 ql ⟨1, [], 1, false⟩ G7) := hD
  clear hD hmv
  go_wp2_with fail
  refine (Duo.restart HS.out D7.out (roomy_fs (by decide) (by simp)) 9 (by decide) (by decide) _ _ _ (Wq.restart_fs (Or.inl ⟨rfl, rfl⟩) (fun _ => ⟨rfl, rfl⟩) (by decide) (by decide)) (by simp [Wq.off])).mono ?_
  rintro e w8 ⟨F8, G8, rfl, hD, hmv⟩
  have D8 : Hid (Duo LD LG W w8 qd ⟨65536, Wq.Fs [⟨Wq.baseN, Fr.frame (Pk.be8 9), 20⟩] false (Fr.frames []) 0, false, 1⟩ F8 ql ⟨9, [], 1, false⟩ G8) := hD
  clear hD hmv
  go_wp2_with fail
  obtain ⟨q9, hq⟩ : ∃ z, z = w8.heap.size := ⟨_, rfl⟩
  rw [← hq]
  have hfr : Duo LD LG W (w8.alloc (.cells #[.int .u8 120] 5 (1, 2))) qd ⟨65536, Wq.Fs [⟨Wq.baseN, Fr.frame (Pk.be8 9), 20⟩] false (Fr.frames []) 0, false, 1⟩ F8 ql ⟨9, [], 1, false⟩ G8 ∧ Bs (w8.alloc (.cells #[.int .u8 120] 5 (1, 2))) (.slice (some ⟨q9, 0, none⟩) 1 1) [120] ∧ Apart F8 (.slice (some ⟨q9, 0, none⟩) 1 1) [120] ∧ Apart G8 (.slice (some ⟨q9, 0, none⟩) 1 1) [120] := by rw [hq]; exact Duo.fresh H7.out HS.out D8.out [120] 5 _
  generalize w8.alloc (.cells #[.int .u8 120] 5 (1, 2)) = w9 at *
  obtain ⟨F9, G9, hFG⟩ : ∃ F9 G9 : Nat → Prop, F9 = F8 ∧ G9 = G8 := ⟨_, _, rfl, rfl⟩
  rw [← hFG.1, ← hFG.2] at hfr
  have D9 : Hid (Duo LD LG W w9 qd ⟨65536, Wq.Fs [⟨Wq.baseN, Fr.frame (Pk.be8 9), 20⟩] false (Fr.frames []) 0, false, 1⟩ F9 ql ⟨9, [], 1, false⟩ G9) := hfr.1
  have L9 : Hid (Bs w9 (.slice (some ⟨q9, 0, none⟩) 1 1) [120] ∧ Apart F9 (.slice (some ⟨q9, 0, none⟩) 1 1) [120] ∧ Apart G9 (.slice (some ⟨q9, 0, none⟩) 1 1) [120]) := hfr.2
  clear hfr hq hFG
  refine (Duo.add HS.out D9.out (roomy_fs (by decide) (by simp)) (by simp) (.slice (some ⟨q9, 0, none⟩) 1 1) [120] L9.out.1 (by decide) L9.out.2.1 L9.out.2.2 _ _ _ (Wq.add_fs (Wq.BaseIs.low (n := 9) (Or.inr ⟨rfl, by decide, by decide⟩)) (fun _ => ⟨rfl, rfl⟩) (by decide) (by decide)) (by simp [Wq.off])).mono ?_
  rintro e w10 ⟨F10, G10, rfl, hD, hmv⟩
  have D10 : Hid (Duo LD LG W w10 qd ⟨65536, Wq.Fs [⟨Wq.baseN, Fr.frame (Pk.be8 9), 20⟩] true (Fr.frames [[120]]) 0, false, 1⟩ F10 ql ⟨9, [[120]], 1, false⟩ G10) := hD
  clear hD hmv
  go_wp2_with fail
  refine (Duo.next H7.out HS.out D10.out 10 rfl).mono ?_
  rintro e w11 ⟨rfl, hD, hb⟩
  obtain ⟨F11, G11, hFG⟩ : ∃ F11 G11 : Nat → Prop, F11 = F10 ∧ G11 = G10 := ⟨_, _, rfl, rfl⟩
  rw [← hFG.1, ← hFG.2] at hD
  have D11 : Hid (Duo LD LG W w11 qd ⟨65536, Wq.Fs [⟨Wq.baseN, Fr.frame (Pk.be8 9), 20⟩] true (Fr.frames [[120]]) 0, false, 1⟩ F11 ql ⟨9, [[120]], 1, false⟩ G11) := hD
  clear hD hb hFG
  go_wp2_with fail
  refine (Duo.crash H7.out HS.out D11.out 99 (by decide) (by decide) _ (Wq.crash_all (Wq.BaseIs.safe (n := 9) (Or.inr ⟨rfl, by decide, by decide⟩)) _ _ (by decide) (by decide))).mono ?_
  rintro e w12 ⟨F12, rfl, hD, hmv⟩
  obtain ⟨G12, hFG⟩ : ∃ z : Nat → Prop, z = G11 := ⟨_, rfl⟩
  rw [← hFG] at hD
  have D12 : Hid (Duo LD LG W w12 qd ⟨65536, Wq.Fs [⟨Wq.baseN, Fr.frame (Pk.be8 9), 20⟩] true (Fr.frames [[120]]) (Fr.frames [[120]]).length, true, 1⟩ F12 ql ⟨9, [[120]], 1, false⟩ G12) := hD
  clear hD hmv hFG
  go_wp2_with fail
  refine (Duo.syncAny HS.out D12.out (roomy_fs (by decide) (by simp)) _ _ _ (Wq.sync_dead (Wq.off_power rfl))).mono ?_
  rintro e w13 ⟨F13, G13, g2, rfl, hD, hlk, hmv⟩
  have D13 : Hid (Duo LD LG W w13 qd ⟨65536, Wq.Fs [⟨Wq.baseN, Fr.frame (Pk.be8 9), 20⟩] true (Fr.frames [[120]]) (Fr.frames [[120]]).length, true, 1⟩ F13 ql g2 G13) := hD
  have HL2 : Hid (g2.lives = 1 ∧ g2.recs.length ≤ 9999) := ⟨hlk.lives, by rw [hlk.recs]; decide⟩
  clear hD hlk hmv
  go_wp2_with fail
  refine (Duo.on H7.out HS.out D13.out (by simp) _ rfl).mono ?_
  rintro e w14 ⟨F14, rfl, hD, hmv⟩
  obtain ⟨G14, hFG⟩ : ∃ z : Nat → Prop, z = G13 := ⟨_, rfl⟩
  rw [← hFG] at hD
  have D14 : Hid (Duo LD LG W w14 qd ⟨65536, Wq.Fs [⟨Wq.baseN, Fr.frame (Pk.be8 9), 20⟩] true (Fr.frames [[120]]) (Fr.frames [[120]]).length, false, 2⟩ F14 ql g2 G14) := hD
  clear hD hmv hFG
  go_wp2_with fail
  refine (Duo.addAny HS.out D14.out rfl (roomy_fs (by decide) (by simp)) HL2.out.2 (.slice none 0 0) [] (Bs.nil _) (by decide) (fun h => absurd h (by decide)) (fun h => absurd h (by decide)) _ _ _ (Wq.add_dead (Wq.off_lives (by rw [HL2.out.1]; decide)) _)).mono ?_
  rintro e w15 ⟨F15, G15, g3, rfl, hD, hlk, hmv⟩
  have D15 : Hid (Duo LD LG W w15 qd ⟨65536, Wq.Fs [⟨Wq.baseN, Fr.frame (Pk.be8 9), 20⟩] true (Fr.frames [[120]]) (Fr.frames [[120]]).length, false, 2⟩ F15 ql g3 G15) := hD
  clear hD hlk hmv
  go_wp2_with fail
  refine (Mine.opn HS.out D15.out.mine (roomy_fs (by decide) (by simp)) (Wq.opn_whole (Or.inr ⟨rfl, by decide, by decide⟩) (by decide))).mono ?_
  rintro e w16 ⟨qn, F16, G16, rfl, hD, hmv, hnw⟩
  have D16 : Hid (Duo LD LG W w16 qd ⟨65536, Wq.Fs [⟨Wq.baseN, Fr.frame (Pk.be8 9), 20⟩] true (Fr.frames [[120]]) (Fr.frames [[120]]).length, false, 2⟩ F16 qn ⟨9, [[120]], 2, false⟩ G16) := hD
  clear hD hmv hnw
  go_wp2_with fail
  refine (Duo.first H7.out HS.out D16.out 9 rfl).mono ?_
  rintro e w17 ⟨rfl, hD, hb⟩
  obtain ⟨F17, G17, hFG⟩ : ∃ F17 G17 : Nat → Prop, F17 = F16 ∧ G17 = G16 := ⟨_, _, rfl, rfl⟩
  rw [← hFG.1, ← hFG.2] at hD
  have D17 : Hid (Duo LD LG W w17 qd ⟨65536, Wq.Fs [⟨Wq.baseN, Fr.frame (Pk.be8 9), 20⟩] true (Fr.frames [[120]]) (Fr.frames [[120]]).length, false, 2⟩ F17 qn ⟨9, [[120]], 2, false⟩ G17) := hD
  clear hD hb hFG
  go_wp2_with fail
  obtain ⟨q18, hq⟩ : ∃ z, z = w17.heap.size := ⟨_, rfl⟩
  rw [← hq]
  have hfr : Duo LD LG W (w17.alloc (.cells #[.int .u8 120] 5 (1, 2))) qd ⟨65536, Wq.Fs [⟨Wq.baseN, Fr.frame (Pk.be8 9), 20⟩] true (Fr.frames [[120]]) (Fr.frames [[120]]).length, false, 2⟩ F17 qn ⟨9, [[120]], 2, false⟩ G17 ∧ Bs (w17.alloc (.cells #[.int .u8 120] 5 (1, 2))) (.slice (some ⟨q18, 0, none⟩) 1 1) [120] ∧ Apart F17 (.slice (some ⟨q18, 0, none⟩) 1 1) [120] ∧ Apart G17 (.slice (some ⟨q18, 0, none⟩) 1 1) [120] := by rw [hq]; exact Duo.fresh H7.out HS.out D17.out [120] 5 _
  generalize w17.alloc (.cells #[.int .u8 120] 5 (1, 2)) = w18 at *
  obtain ⟨F18, G18, hFG⟩ : ∃ F18 G18 : Nat → Prop, F18 = F17 ∧ G18 = G17 := ⟨_, _, rfl, rfl⟩
  rw [← hFG.1, ← hFG.2] at hfr
  have D18 : Hid (Duo LD LG W w18 qd ⟨65536, Wq.Fs [⟨Wq.baseN, Fr.frame (Pk.be8 9), 20⟩] true (Fr.frames [[120]]) (Fr.frames [[120]]).length, false, 2⟩ F18 qn ⟨9, [[120]], 2, false⟩ G18) := hfr.1
  have L18 : Hid (Bs w18 (.slice (some ⟨q18, 0, none⟩) 1 1) [120] ∧ Apart F18 (.slice (some ⟨q18, 0, none⟩) 1 1) [120] ∧ Apart G18 (.slice (some ⟨q18, 0, none⟩) 1 1) [120]) := hfr.2
  clear hfr hq hFG
  refine (Mine.append H7.out D18.out.mine Wq.baseN (.slice (some ⟨q18, 0, none⟩) 1 1) [120] L18.out.1 (by decide) L18.out.2.1 (by simp [Wq.Fs]) _ _ (Wq.append_base (fun h => by cases h) (by decide))).mono ?_
  rintro e w19 ⟨F19, rfl, hM, hmv⟩
  have M19 : Hid (Mine LD W w19 qd ⟨65536, Wq.Fs [⟨Wq.baseN, Fr.frame (Pk.be8 9) ++ [120], 20⟩] true (Fr.frames [[120]]) (Fr.frames [[120]]).length, false, 2⟩ F19) := hM
  clear hM hmv
  go_wp2_with fail
  refine (Mine.opnNo HS.out M19.out (roomy_fs (by decide) (by simp)) (Wq.opn_more (by decide) (by decide))).mono ?_
  rintro e w20 ⟨F20, rfl, hM, hmv⟩
  have BE : Hid (Below W.heap.size W w20) := hM.below
  clear hM hmv
  go_wp2
  go_ret
  exact ⟨rfl, BE.out⟩
end Go.Proofs.Ytmbpkbdaakchiaa
