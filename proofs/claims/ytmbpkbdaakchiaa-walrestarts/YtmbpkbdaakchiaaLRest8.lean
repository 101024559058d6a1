/- What WalRestarts answers. -/
import Derived.Test.YtmbpkbdaakchiaaLAwake8
namespace Go.Proofs.Ytmbpkbdaakchiaa
open Go.RowKit

set_option maxRecDepth 20000 in
set_option maxHeartbeats 4000000 in
theorem restarts_any8 {LD : Rep} {LG : RepG} (S7 : Specs7 LD) (S : Specs8 LD LG) (vl : Value) (ls : List (List UInt8)) (z : Int) (vr : Value) (r : List UInt8) (keep : Int) (W : World) (hl : Bl W vl ls) (hll : ls.length ≤ maxLen) (hlx : ∀ x ∈ ls, x.length ≤ maxLen) (hr : Bs W vr r) (hlr : r.length ≤ maxLen) (hk : -9223372036854775808 ≤ keep ∧ keep ≤ 9223372036854775807) :
    Calls Try.prog 5 #[vl, .int .i64 z, vr, .int .i64 keep] W fun e w' => e = .returned (.bool true) ∧ Below W.heap.size W w' := by
  have H7 : Hid (Specs7 LD) := S7
  have HS : Hid (Specs8 LD LG) := S
  clear S7 S
  have kc := fun (w : World) (C : Array Value) (n c : Nat) => Lib.run_convert_bytes_const (P := Try.prog) w 31 5 C n c Try.underlying31 Try.underlying5
  have HL : Hid (Bl W vl ls ∧ ∀ x ∈ ls, x.length ≤ maxLen) := ⟨hl, hlx⟩
  obtain ⟨al, n, cl, rfl, hn, hX⟩ := hl
  have HN : Hid (n = ls.length) := hn
  have hn1 : n ≤ 9223372036854775807 := by unfold maxLen at hll; omega
  clear hX hn hll hlx
  have Hr0 : Hid (Bs W vr r) := hr
  obtain ⟨ar, nr, cr, rfl, hnr, hXr⟩ := hr
  have Hr : Hid (Bs W (.slice ar nr cr) r ∧ nr = r.length) := ⟨Hr0.out, hnr⟩
  have hnr1 : nr ≤ 9223372036854775807 := by unfold maxLen at hlr; omega
  clear hXr hnr hlr Hr0
  have HK : Hid (-9223372036854775808 ≤ keep ∧ keep ≤ 9223372036854775807) := hk
  clear hk
  go_enter Try.func5, Try.ntmps5
  go_wp2_with fail
  refine (awake_any8 H7.out HS.out W).mono ?_
  rintro e w0 ⟨rfl, hb⟩
  have B0 : Hid (Below W.heap.size W w0) := hb
  clear hb
  by_cases g1 : 10 < n
  · have g12 : (10 : Int) < (n : Int) := by omega
    go_wp2
    go_ret
    exact ⟨rfl, B0.out⟩
  have g12 : ¬ (10 : Int) < (n : Int) := by omega
  by_cases g2 : z < 1
  · go_wp2
    go_ret
    exact ⟨rfl, B0.out⟩
  by_cases g3 : 1099511627776 < z
  · go_wp2
    go_ret
    exact ⟨rfl, B0.out⟩
  by_cases g4 : 300 < nr
  · have g42 : (300 : Int) < (nr : Int) := by omega
    go_wp2
    go_ret
    exact ⟨rfl, B0.out⟩
  have g42 : ¬ (300 : Int) < (nr : Int) := by omega
  go_wp2_with fail
  refine (mine_new H7.out B0.out 20000 (by decide)).mono ?_
  rintro e w1 ⟨qd, F1, rfl, hM⟩
  have M1 : Hid (Mine LD W w1 qd ⟨20000, Wq.Fs [] false (Fr.frames []) 0, false, 1⟩ F1) := hM
  clear hM
  go_wp2_with fail
  refine (Mine.opn HS.out M1.out (roomy_fs (by decide) (by simp)) (Wq.opn_none (Or.inl ⟨rfl, rfl⟩))).mono ?_
  rintro e w2 ⟨ql, F2, G2, rfl, hD, hmv, hnw⟩
  have D2 : Hid (Duo LD LG W w2 qd ⟨20000, Wq.Fs [] false (Fr.frames []) 0, false, 1⟩ F2 ql ⟨1, [], 1, false⟩ G2) := hD
  clear hD hmv hnw
  have A0 : Hid (AddS LD LG W w2 qd ql 20000 0 [] 1 []) := ⟨_, _, false, D2.out, fun _ => ⟨rfl, rfl⟩⟩
  go_wp2
  go_loopw [13] (fun i wr => ∃ k : Nat, k ≤ n ∧ i = .int .i64 (k : Int) ∧ (∀ x ∈ ls.take k, x.length ≤ 300) ∧ AddS LD LG W wr qd ql 20000 0 [] 1 (ls.take k)) (fun i _ => ((n : Int) - intOf i).toNat)
  case atStart => exact ⟨0, Nat.zero_le _, rfl, fun x hx => (by cases hx), A0.out⟩
  case round =>
    obtain ⟨k, hk, rfl, hall, hrs⟩ := hrel
    have HR : Hid ((∀ x ∈ ls.take k, x.length ≤ 300) ∧ AddS LD LG W wr qd ql 20000 0 [] 1 (ls.take k)) := ⟨hall, hrs⟩
    clear hall hrs
    by_cases hlt : k < n
    · have hlt' : (k : Int) < (n : Int) := by omega
      have hkl : k < ls.length := by rw [← HN.out]; exact hlt
      obtain ⟨av, kv, cv, hv, hkv, hcs⟩ := HL.out.1
      obtain ⟨g, o, vx, hal, hcell, hbx⟩ := hcs k ls[k] (List.getElem?_eq_getElem hkl)
      simp only [Value.slice.injEq] at hv
      obtain ⟨rfl, hq2, rfl⟩ := hv
      subst hal
      have hxl := HL.out.2 _ (List.getElem_mem hkl)
      have hts : ls.take (k + 1) = ls.take k ++ [ls[k]] := List.take_succ_eq_append_getElem hkl
      have HGE : Hid (ls[k]? = some ls[k]) := List.getElem?_eq_getElem hkl
      generalize ls[k] = x at *
      have HTS : Hid (ls.take (k + 1) = ls.take k ++ [x]) := hts
      clear hcs hkv hkl hq2 hts
      have HBX : Hid (Bs W vx x) := hbx
      obtain ⟨ax, nx, cx, rfl, hnx, hY⟩ := hbx
      have HNX : Hid (nx = x.length) := hnx
      have hnx1 : nx ≤ 9223372036854775807 := by unfold maxLen at hxl; omega
      clear hY hnx hxl
      have hk0 : (0 : Int) ≤ (k : Int) := by omega
      have HCL : Hid (∀ w', Below W.heap.size W w' → w'.cell? ⟨g, o + k, none⟩ = some (.slice ax nx cx)) := fun w' hb => Below.kept hb hcell
      clear hcell
      have hc1 := HCL.out wr HR.out.2.below
      by_cases h300 : 300 < nx
      · have h300' : (300 : Int) < (nx : Int) := by omega
        go_wp2
        go_ret
        exact ⟨rfl, HR.out.2.below⟩
      have h300' : ¬ (300 : Int) < (nx : Int) := by omega
      have HFL : Hid ((Fr.frames (ls.take k)).length ≤ 3200 ∧ (ls.take k).length ≤ 100) := by
        have h1 := Fr.frames_max _ 300 HR.out.1
        have h2 : (ls.take k).length ≤ k := by rw [List.length_take]; omega
        have h3 : (ls.take k).length * (12 + 300) ≤ k * (12 + 300) := Nat.mul_le_mul_right _ h2
        exact ⟨by omega, by omega⟩
      go_wp2_with fail
      clear hc1
      refine (HR.out.2.add HS.out (Wq.BaseIs.low (n := 1) (Or.inl ⟨rfl, rfl⟩)) (by simp) (by decide) (by have := HFL.out.2; omega) _ x HBX.out (by rw [← HNX.out]; omega) (by have := HFL.out.1; have := HNX.out; simp only [Dq.size, List.map_nil, List.sum_nil]; omega)).mono ?_
      rintro e wB ⟨rfl, hA⟩
      have HRB : Hid ((∀ y ∈ ls.take (k + 1), y.length ≤ 300) ∧ AddS LD LG W wB qd ql 20000 0 [] 1 (ls.take (k + 1))) := by
        rw [HTS.out]
        refine ⟨fun y hy => ?_, hA⟩
        rcases List.mem_append.1 hy with h1 | h1
        · exact HR.out.1 y h1
        · simp only [List.mem_singleton] at h1
          rw [h1, ← HNX.out]
          omega
      clear hA
      go_wp2
      go_roundw
      case rel => exact ⟨k + 1, by omega, by go_num, HRB.out.1, HRB.out.2⟩
      case measure => simp [intOf]; omega
    · have hlt' : ¬ (k : Int) < (n : Int) := by omega
      obtain ⟨F2, G2, has, hD2, hhas⟩ := HR.out.2
      obtain ⟨l, hl⟩ : ∃ l, l = ls.take k := ⟨_, rfl⟩
      rw [← hl] at hD2 hhas
      have D100 : Hid (Duo LD LG W wr qd ⟨20000, Wq.Fs [] has (Fr.frames l) 0, false, 1⟩ F2 ql ⟨1, l, 1, false⟩ G2) := hD2
      have HH : Hid (has = false → Fr.frames l = []) := fun e => by rw [(hhas e).1]; rfl
      clear hD2 hhas hl
      have HZ : Hid (1 ≤ z ∧ z ≤ 1099511627776) := by
        have h : 1 ≤ z ∧ z ≤ 1099511627776 := ⟨by omega, by omega⟩
        exact h
      go_wp2_with fail
      refine (Duo.restart HS.out D100.out (roomy_fs (by decide) (by simp)) z (by omega) (by omega) _ _ _ (Wq.restart_fs (Or.inl ⟨rfl, rfl⟩) (fun e => ⟨HH.out e, rfl⟩) HZ.out (by decide)) (by simp [Wq.off])).mono ?_
      rintro e w101 ⟨F101, G101, rfl, hD, hmv⟩
      have D101 : Hid (Duo LD LG W w101 qd ⟨20000, Wq.Fs [⟨Wq.baseN, Fr.frame (Pk.be8 z), 20⟩] has (Fr.frames []) 0, false, 1⟩ F101 ql ⟨z, [], 1, false⟩ G101) := hD
      clear hD hmv
      go_wp2_with fail
      refine (Duo.first H7.out HS.out D101.out z rfl).mono ?_
      rintro e w102 ⟨rfl, hD, hb⟩
      obtain ⟨F102, G102, hFG⟩ : ∃ F102 G102 : Nat → Prop, F102 = F101 ∧ G102 = G101 := ⟨_, _, rfl, rfl⟩
      rw [← hFG.1, ← hFG.2] at hD
      have D102 : Hid (Duo LD LG W w102 qd ⟨20000, Wq.Fs [⟨Wq.baseN, Fr.frame (Pk.be8 z), 20⟩] has (Fr.frames []) 0, false, 1⟩ F102 ql ⟨z, [], 1, false⟩ G102) := hD
      clear hD hb hFG
      go_wp2_with fail
      refine (Duo.next H7.out HS.out D102.out z (by simp [Wq.next])).mono ?_
      rintro e w103 ⟨rfl, hD, hb⟩
      obtain ⟨F103, G103, hFG⟩ : ∃ F103 G103 : Nat → Prop, F103 = F102 ∧ G103 = G102 := ⟨_, _, rfl, rfl⟩
      rw [← hFG.1, ← hFG.2] at hD
      have D103 : Hid (Duo LD LG W w103 qd ⟨20000, Wq.Fs [⟨Wq.baseN, Fr.frame (Pk.be8 z), 20⟩] has (Fr.frames []) 0, false, 1⟩ F103 ql ⟨z, [], 1, false⟩ G103) := hD
      clear hD hb hFG
      go_wp2_with fail
      refine (Duo.add HS.out D103.out (roomy_fs (by decide) (by simp)) (by simp) _ r (D103.out.arg Hr.out.1).1 (by rw [← Hr.out.2]; omega) (D103.out.arg Hr.out.1).2.1 (D103.out.arg Hr.out.1).2.2 _ _ _ (Wq.add_fs (Wq.BaseIs.low (n := z) (Or.inr ⟨rfl, HZ.out⟩)) (fun _ => ⟨rfl, rfl⟩) (by rw [← Hr.out.2]; omega) (by have h1 := (Wq.BaseIs.size (n := z) (Or.inr ⟨rfl, HZ.out⟩)); have h2 := Hr.out.2; simp only [Fr.frames, List.flatMap_nil, List.length_nil]; omega)) (by simp [Wq.off])).mono ?_
      rintro e w104 ⟨F104, G104, rfl, hD, hmv⟩
      have D104 : Hid (Duo LD LG W w104 qd ⟨20000, Wq.Fs [⟨Wq.baseN, Fr.frame (Pk.be8 z), 20⟩] true (Fr.frames [r]) 0, false, 1⟩ F104 ql ⟨z, [r], 1, false⟩ G104) := hD
      clear hD hmv
      go_wp2_with fail
      refine (Duo.sync HS.out D104.out (roomy_fs (by decide) (by simp))  _ _ _ (Wq.sync_fs (Wq.BaseIs.low (n := z) (Or.inr ⟨rfl, HZ.out⟩))) (by simp [Wq.off])).mono ?_
      rintro e w105 ⟨F105, G105, rfl, hD, hmv⟩
      have D105 : Hid (Duo LD LG W w105 qd ⟨20000, Wq.Fs [⟨Wq.baseN, Fr.frame (Pk.be8 z), 20⟩] true (Fr.frames [r]) (Fr.frames [r]).length, false, 1⟩ F105 ql ⟨z, [r], 1, false⟩ G105) := hD
      clear hD hmv
      go_wp2_with fail
      refine (Duo.crash H7.out HS.out D105.out keep HK.out.1 HK.out.2 _ (Wq.crash_synced (Wq.BaseIs.safe (n := z) (Or.inr ⟨rfl, HZ.out⟩)) _ _)).mono ?_
      rintro e w106 ⟨F106, rfl, hD, hmv⟩
      obtain ⟨G106, hFG⟩ : ∃ z : Nat → Prop, z = G105 := ⟨_, rfl⟩
      rw [← hFG] at hD
      have D106 : Hid (Duo LD LG W w106 qd ⟨20000, Wq.Fs [⟨Wq.baseN, Fr.frame (Pk.be8 z), 20⟩] true (Fr.frames [r]) (Fr.frames [r]).length, true, 1⟩ F106 ql ⟨z, [r], 1, false⟩ G106) := hD
      clear hD hmv hFG
      go_wp2_with fail
      refine (Duo.on H7.out HS.out D106.out (by simp) _ rfl).mono ?_
      rintro e w107 ⟨F107, rfl, hD, hmv⟩
      obtain ⟨G107, hFG⟩ : ∃ z : Nat → Prop, z = G106 := ⟨_, rfl⟩
      rw [← hFG] at hD
      have D107 : Hid (Duo LD LG W w107 qd ⟨20000, Wq.Fs [⟨Wq.baseN, Fr.frame (Pk.be8 z), 20⟩] true (Fr.frames [r]) (Fr.frames [r]).length, false, 2⟩ F107 ql ⟨z, [r], 1, false⟩ G107) := hD
      clear hD hmv hFG
      have HRL : Hid (∀ y ∈ [r], y.length ≤ 20000) := by
        intro y hy
        simp only [List.mem_singleton] at hy
        rw [hy, ← Hr.out.2]
        omega
      go_wp2_with fail
      refine (Mine.opn HS.out D107.out.mine (roomy_fs (by decide) (by simp)) (Wq.opn_whole (Or.inr ⟨rfl, HZ.out⟩) HRL.out)).mono ?_
      rintro e w108 ⟨qm, F108, G108, rfl, hD, hmv, hnw⟩
      have D108 : Hid (Duo LD LG W w108 qd ⟨20000, Wq.Fs [⟨Wq.baseN, Fr.frame (Pk.be8 z), 20⟩] true (Fr.frames [r]) (Fr.frames [r]).length, false, 2⟩ F108 qm ⟨z, [r], 2, false⟩ G108) := hD
      clear hD hmv hnw
      go_wp2_with fail
      refine (Duo.first H7.out HS.out D108.out z rfl).mono ?_
      rintro e w109 ⟨rfl, hD, hb⟩
      obtain ⟨F109, G109, hFG⟩ : ∃ F109 G109 : Nat → Prop, F109 = F108 ∧ G109 = G108 := ⟨_, _, rfl, rfl⟩
      rw [← hFG.1, ← hFG.2] at hD
      have D109 : Hid (Duo LD LG W w109 qd ⟨20000, Wq.Fs [⟨Wq.baseN, Fr.frame (Pk.be8 z), 20⟩] true (Fr.frames [r]) (Fr.frames [r]).length, false, 2⟩ F109 qm ⟨z, [r], 2, false⟩ G109) := hD
      clear hD hb hFG
      have hz1 : IntKind.wrap .i64 (z + 1) = z + 1 := by rw [IntKind.wrap_i64]; omega
      go_wp2_with fail
      refine (Duo.next H7.out HS.out D109.out (z + 1) (by simp [Wq.next])).mono ?_
      rintro e w110 ⟨rfl, hD, hb⟩
      obtain ⟨F110, G110, hFG⟩ : ∃ F110 G110 : Nat → Prop, F110 = F109 ∧ G110 = G109 := ⟨_, _, rfl, rfl⟩
      rw [← hFG.1, ← hFG.2] at hD
      have D110 : Hid (Duo LD LG W w110 qd ⟨20000, Wq.Fs [⟨Wq.baseN, Fr.frame (Pk.be8 z), 20⟩] true (Fr.frames [r]) (Fr.frames [r]).length, false, 2⟩ F110 qm ⟨z, [r], 2, false⟩ G110) := hD
      clear hD hb hFG
      go_wp2_with fail
      refine (Duo.at_ HS.out D110.out (roomy_fs (by decide) (by simp)) z (by omega) (by omega) r 0 (Wq.at_fs 0 (by simp) rfl) (by simp [Wq.off])).mono ?_
      rintro e w111 ⟨F111, G111, v111, rfl, hbs, hap, hD, hmv⟩
      have D111 : Hid (Duo LD LG W w111 qd ⟨20000, Wq.Fs [⟨Wq.baseN, Fr.frame (Pk.be8 z), 20⟩] true (Fr.frames [r]) (Fr.frames [r]).length, false, 2⟩ F111 qm ⟨z, [r], 2, false⟩ G111) := hD
      have XB111 : Hid (Bs w111 v111 r ∧ Apart (both F111 G111) v111 r) := ⟨hbs, hap⟩
      clear hD hmv hbs hap
      have hcv : (convert 31 9 v111).run Try.prog w111 = .ok (.string ⟨r.toArray⟩) w111 := XB111.out.1.conv
      have hcr : (convert 31 9 (.slice ar nr cr)).run Try.prog w111 = .ok (.string ⟨r.toArray⟩) w111 := (D111.out.arg Hr.out.1).1.conv
      go_wp2
      go_ret
      exact ⟨rfl, D111.out.mine.below⟩
end Go.Proofs.Ytmbpkbdaakchiaa
