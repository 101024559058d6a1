/- What WalNumbers answers. -/
import Derived.Test.YtmbpkbdaakchiabLAwake8
import Derived.Test.YtmbpkbdaakchiabTakeAt
import Derived.Deep.DeepCutAuto
namespace Go.Proofs.Ytmbpkbdaakchiab
open Go.RowKit

set_option maxRecDepth 20000 in
set_option maxHeartbeats 4000000 in
theorem numbers_any8 {LD : Rep} {LG : RepG} (S7 : Specs7 LD) (S : Specs8 LD LG) (vl : Value) (ls : List (List UInt8)) (z : Int) (W : World) (hl : Bl W vl ls) (hll : ls.length ≤ maxLen) (hlx : ∀ x ∈ ls, x.length ≤ maxLen) :
    Calls Try.prog 4 #[vl, .int .i64 z] W fun e w' => e = .returned (.bool true) ∧ Below W.heap.size W w' := by
  have H7 : Hid (Specs7 LD) := S7
  have HS : Hid (Specs8 LD LG) := S
  clear S7 S
  have kc := fun (w : World) (C : Array Value) (n c : Nat) => Lib.run_convert_bytes_const (P := Try.prog) w 31 5 C n c Try.underlying31 Try.underlying5
  have HL : Hid (Bl W vl ls ∧ ∀ x ∈ ls, x.length ≤ maxLen) := ⟨hl, hlx⟩
  obtain ⟨al, n, cl, rfl, hn, hX⟩ := hl
  have HN : Hid (n = ls.length) := hn
  have hn1 : n ≤ 9223372036854775807 := by unfold maxLen at hll; omega
  clear hX hn hll hlx
  go_enter Try.func4, Try.ntmps4
  go_wp2_with fail
  refine (awake_any8 H7.out HS.out W).mono ?_
  rintro e w0 ⟨rfl, hb⟩
  have B0 : Hid (Below W.heap.size W w0) := hb
  clear hb
  by_cases g1 : 15 < n
  · have g12 : (15 : Int) < (n : Int) := by omega
    go_wp2
    go_ret
    exact ⟨rfl, B0.out⟩
  have g12 : ¬ (15 : Int) < (n : Int) := by omega
  by_cases g2 : z < 1
  · go_wp2
    go_ret
    exact ⟨rfl, B0.out⟩
  by_cases g3 : 1099511627776 < z
  · go_wp2
    go_ret
    exact ⟨rfl, B0.out⟩
  have HZ : Hid (1 ≤ z ∧ z ≤ 1099511627776) := by
    have h : 1 ≤ z ∧ z ≤ 1099511627776 := ⟨by omega, by omega⟩
    exact h
  go_wp2_with fail
  refine (mine_new H7.out B0.out 20000 (by decide)).mono ?_
  rintro e w1 ⟨qd, F1, rfl, hM⟩
  have M1 : Hid (Mine LD W w1 qd ⟨20000, Wq.Fs [] false (Fr.frames []) 0, false, 1⟩ F1) := hM
  clear hM
  go_wp2_with fail
  refine (Mine.opn HS.out M1.out (roomy_fs (by decide) (by simp)) (Wq.opn_none (Or.inl ⟨rfl, rfl⟩))).mono ?_
  rintro e w2 ⟨ql, F2, G2, rfl, hD, hmv, hnw⟩
  have D2 : Hid (Duo LD LG W w2 qd ⟨20000, Wq.Fs [] false (Fr.frames []) 0, false, 1⟩ F2 ql ⟨1, [], 1, false⟩ G2) := hD
  clear hD hmv hnw
  go_wp2_with fail
  refine (Duo.restart HS.out D2.out (roomy_fs (by decide) (by simp)) z (by omega) (by omega) _ _ _ (Wq.restart_fs (Or.inl ⟨rfl, rfl⟩) (fun _ => ⟨rfl, rfl⟩) HZ.out (by decide)) (by simp [Wq.off])).mono ?_
  rintro e w3 ⟨F3, G3, rfl, hD, hmv⟩
  have D3 : Hid (Duo LD LG W w3 qd ⟨20000, Wq.Fs [⟨Wq.baseN, Fr.frame (Pk.be8 z), 20⟩] false (Fr.frames []) 0, false, 1⟩ F3 ql ⟨z, [], 1, false⟩ G3) := hD
  clear hD hmv
  have A0 : Hid (AddS LD LG W w3 qd ql 20000 0 [⟨Wq.baseN, Fr.frame (Pk.be8 z), 20⟩] z []) := ⟨_, _, false, D3.out, fun _ => ⟨rfl, rfl⟩⟩
  go_wp2
  go_loopw [9] (fun i wr => ∃ k : Nat, k ≤ n ∧ i = .int .i64 (k : Int) ∧ (∀ x ∈ ls.take k, x.length ≤ 200) ∧ AddS LD LG W wr qd ql 20000 0 [⟨Wq.baseN, Fr.frame (Pk.be8 z), 20⟩] z (ls.take k)) (fun i _ => ((n : Int) - intOf i).toNat)
  case atStart => exact ⟨0, Nat.zero_le _, rfl, fun x hx => (by cases hx), A0.out⟩
  case round =>
    obtain ⟨k, hk, rfl, hall, hrs⟩ := hrel
    have HR : Hid ((∀ x ∈ ls.take k, x.length ≤ 200) ∧ AddS LD LG W wr qd ql 20000 0 [⟨Wq.baseN, Fr.frame (Pk.be8 z), 20⟩] z (ls.take k)) := ⟨hall, hrs⟩
    clear hall hrs
    by_cases hlt : k < n
    · have hlt' : (k : Int) < (n : Int) := by omega
      have hkl : k < ls.length := by rw [← HN.out]; exact hlt
      obtain ⟨av, kv, cv, hv, hkv, hcs⟩ := HL.out.1
      obtain ⟨g, o, vx, hal, hcell, hbx⟩ := hcs k ls[k] (List.getElem?_eq_getElem hkl)
      simp only [Value.slice.injEq] at hv
      obtain ⟨rfl, hq2, rfl⟩ := hv
      subst hal
      have hxl := HL.out.2 _ (List.getElem_mem hkl)
      have hts : ls.take (k + 1) = ls.take k ++ [ls[k]] := List.take_succ_eq_append_getElem hkl
      have HGE : Hid (ls[k]? = some ls[k]) := List.getElem?_eq_getElem hkl
      generalize ls[k] = x at *
      have HTS : Hid (ls.take (k + 1) = ls.take k ++ [x]) := hts
      clear hcs hkv hkl hq2 hts
      have HBX : Hid (Bs W vx x) := hbx
      obtain ⟨ax, nx, cx, rfl, hnx, hY⟩ := hbx
      have HNX : Hid (nx = x.length) := hnx
      have hnx1 : nx ≤ 9223372036854775807 := by unfold maxLen at hxl; omega
      clear hY hnx hxl
      have hk0 : (0 : Int) ≤ (k : Int) := by omega
      have HCL : Hid (∀ w', Below W.heap.size W w' → w'.cell? ⟨g, o + k, none⟩ = some (.slice ax nx cx)) := fun w' hb => Below.kept hb hcell
      clear hcell
      have hc1 := HCL.out wr HR.out.2.below
      by_cases h300 : 200 < nx
      · have h300' : (200 : Int) < (nx : Int) := by omega
        go_wp2
        go_ret
        exact ⟨rfl, HR.out.2.below⟩
      have h300' : ¬ (200 : Int) < (nx : Int) := by omega
      have HFL : Hid ((Fr.frames (ls.take k)).length ≤ 6300 ∧ (ls.take k).length ≤ 100) := by
        have h1 := Fr.frames_max _ 200 HR.out.1
        have h2 : (ls.take k).length ≤ k := by rw [List.length_take]; omega
        have h3 : (ls.take k).length * (12 + 200) ≤ k * (12 + 200) := Nat.mul_le_mul_right _ h2
        exact ⟨by omega, by omega⟩
      have hwz : IntKind.wrap .i64 (z + (k : Int)) = z + (k : Int) := by rw [IntKind.wrap_i64]; omega
      go_wp2_with fail
      refine (HR.out.2.next H7.out HS.out (z + (k : Int)) (by rw [List.length_take]; have := HN.out; omega)).mono ?_
      rintro e wN ⟨rfl, hA⟩
      have HRN : Hid ((∀ x ∈ ls.take k, x.length ≤ 200) ∧ AddS LD LG W wN qd ql 20000 0 [⟨Wq.baseN, Fr.frame (Pk.be8 z), 20⟩] z (ls.take k)) := ⟨HR.out.1, hA⟩
      have hc2 := HCL.out wN HRN.out.2.below
      clear hA hc1
      go_wp2_with fail
      clear hc2
      refine (HRN.out.2.add HS.out (Wq.BaseIs.low (n := z) (Or.inr ⟨rfl, HZ.out⟩)) (by simp) (by decide) (by have := HFL.out.2; omega) _ x HBX.out (by rw [← HNX.out]; omega) (by have := HFL.out.1; have := HNX.out; have h0 := (Wq.BaseIs.size (n := z) (Or.inr ⟨rfl, HZ.out⟩)); omega)).mono ?_
      rintro e wB ⟨rfl, hA⟩
      have HRB : Hid ((∀ y ∈ ls.take (k + 1), y.length ≤ 200) ∧ AddS LD LG W wB qd ql 20000 0 [⟨Wq.baseN, Fr.frame (Pk.be8 z), 20⟩] z (ls.take (k + 1))) := by
        rw [HTS.out]
        refine ⟨fun y hy => ?_, hA⟩
        rcases List.mem_append.1 hy with h1 | h1
        · exact HRN.out.1 y h1
        · simp only [List.mem_singleton] at h1
          rw [h1, ← HNX.out]
          omega
      clear hA
      go_wp2
      go_roundw
      case rel => exact ⟨k + 1, by omega, by go_num, HRB.out.1, HRB.out.2⟩
      case measure => simp [intOf]; omega
    · have hlt' : ¬ (k : Int) < (n : Int) := by omega
      obtain ⟨F100, G100, has, hD2, hhas⟩ := HR.out.2
      have hall := HR.out.1
      have hkn : ls.take k = ls := List.take_of_length_le (by rw [← HN.out]; omega)
      rw [hkn] at hD2 hhas hall
      have D100 : Hid (Duo LD LG W wr qd ⟨20000, Wq.Fs [⟨Wq.baseN, Fr.frame (Pk.be8 z), 20⟩] has (Fr.frames ls) 0, false, 1⟩ F100 ql ⟨z, ls, 1, false⟩ G100) := hD2
      have HHA : Hid ((has = false → ls = []) ∧ ∀ x ∈ ls, x.length ≤ 300) := ⟨fun e => (hhas e).1, fun x hx => Nat.le_trans (hall x hx) (by decide)⟩
      clear hD2 hhas hall hkn
      have hz1 : IntKind.wrap .i64 (z - 1) = z - 1 := by rw [IntKind.wrap_i64]; omega
      have hzn : IntKind.wrap .i64 (z + (n : Int)) = z + (n : Int) := by rw [IntKind.wrap_i64]; omega
      have HNL : Hid (Wq.next ⟨z, ls, 1, false⟩ = z + (n : Int)) := by
        have h : Wq.next ⟨z, ls, 1, false⟩ = z + (n : Int) := by
          simp only [Wq.next, HN.out]
        exact h
      have HAN : Hid (z + (n : Int) < z ∨ (ls.length : Int) ≤ z + (n : Int) - z) := by
        have h : z + (n : Int) < z ∨ (ls.length : Int) ≤ z + (n : Int) - z := Or.inr (by rw [← HN.out]; omega)
        exact h
      go_wp2_with fail
      refine (Duo.at_ HS.out D100.out (roomy_fs (by decide) (by simp)) (z - 1) (by omega) (by omega) [] 4 (Wq.at_none (Or.inl (by omega))) (by simp [Wq.off])).mono ?_
      rintro e w101 ⟨F101, G101, v101, rfl, hbs, hap, hD, hmv⟩
      have D101 : Hid (Duo LD LG W w101 qd ⟨20000, Wq.Fs [⟨Wq.baseN, Fr.frame (Pk.be8 z), 20⟩] has (Fr.frames ls) 0, false, 1⟩ F101 ql ⟨z, ls, 1, false⟩ G101) := hD
      clear hD hmv hbs hap
      go_wp2_with fail
      refine (Duo.next H7.out HS.out D101.out (z + (n : Int)) HNL.out).mono ?_
      rintro e w102 ⟨rfl, hD, hb⟩
      obtain ⟨F102, G102, hFG⟩ : ∃ F102 G102 : Nat → Prop, F102 = F101 ∧ G102 = G101 := ⟨_, _, rfl, rfl⟩
      rw [← hFG.1, ← hFG.2] at hD
      have D102 : Hid (Duo LD LG W w102 qd ⟨20000, Wq.Fs [⟨Wq.baseN, Fr.frame (Pk.be8 z), 20⟩] has (Fr.frames ls) 0, false, 1⟩ F102 ql ⟨z, ls, 1, false⟩ G102) := hD
      clear hD hb hFG
      go_wp2_with fail
      refine (Duo.at_ HS.out D102.out (roomy_fs (by decide) (by simp)) (z + (n : Int)) (by omega) (by omega) [] 4 (Wq.at_none HAN.out) (by simp [Wq.off])).mono ?_
      rintro e w103 ⟨F103, G103, v103, rfl, hbs, hap, hD, hmv⟩
      have D103 : Hid (Duo LD LG W w103 qd ⟨20000, Wq.Fs [⟨Wq.baseN, Fr.frame (Pk.be8 z), 20⟩] has (Fr.frames ls) 0, false, 1⟩ F103 ql ⟨z, ls, 1, false⟩ G103) := hD
      clear hD hmv hbs hap
      have E0 : Hid (∃ F G, Duo LD LG W w103 qd ⟨20000, Wq.Fs [⟨Wq.baseN, Fr.frame (Pk.be8 z), 20⟩] has (Fr.frames ls) 0, false, 1⟩ F ql ⟨z, ls, 1, false⟩ G) := ⟨_, _, D103.out⟩
      go_wp2
      go_loopw [14] (fun i wr => ∃ k : Nat, k ≤ n ∧ i = .int .i64 (k : Int) ∧ ∃ F G, Duo LD LG W wr qd ⟨20000, Wq.Fs [⟨Wq.baseN, Fr.frame (Pk.be8 z), 20⟩] has (Fr.frames ls) 0, false, 1⟩ F ql ⟨z, ls, 1, false⟩ G) (fun i _ => ((n : Int) - intOf i).toNat)
      case atStart => exact ⟨0, Nat.zero_le _, rfl, E0.out⟩
      case round =>
        obtain ⟨k, hk, rfl, F200, G200, hD⟩ := hrel
        have D200 : Hid (Duo LD LG W wr qd ⟨20000, Wq.Fs [⟨Wq.baseN, Fr.frame (Pk.be8 z), 20⟩] has (Fr.frames ls) 0, false, 1⟩ F200 ql ⟨z, ls, 1, false⟩ G200) := hD
        clear hD
        by_cases hlw : k < n
        · have hlt' : (k : Int) < (n : Int) := by omega
          have hltn : (k : Int) < (n : Int) := by omega
          have hlt : k < n := by omega
          have hkl : k < ls.length := by rw [← HN.out]; exact hlt
          obtain ⟨av, kv, cv, hv, hkv, hcs⟩ := HL.out.1
          obtain ⟨g, o, vx, hal, hcell, hbx⟩ := hcs k ls[k] (List.getElem?_eq_getElem hkl)
          simp only [Value.slice.injEq] at hv
          obtain ⟨rfl, hq2, rfl⟩ := hv
          subst hal
          have hxl := HL.out.2 _ (List.getElem_mem hkl)
          have hts : ls.take (k + 1) = ls.take k ++ [ls[k]] := List.take_succ_eq_append_getElem hkl
          have HGE : Hid (ls[k]? = some ls[k]) := List.getElem?_eq_getElem hkl
          generalize ls[k] = x at *
          have HTS : Hid (ls.take (k + 1) = ls.take k ++ [x]) := hts
          clear hcs hkv hkl hq2 hts
          have HBX : Hid (Bs W vx x) := hbx
          obtain ⟨ax, nx, cx, rfl, hnx, hY⟩ := hbx
          have HNX : Hid (nx = x.length) := hnx
          have hnx1 : nx ≤ 9223372036854775807 := by unfold maxLen at hxl; omega
          clear hY hnx hxl
          have hk0 : (0 : Int) ≤ (k : Int) := by omega
          have HCL : Hid (∀ w', Below W.heap.size W w' → w'.cell? ⟨g, o + k, none⟩ = some (.slice ax nx cx)) := fun w' hb => Below.kept hb hcell
          clear hcell
          have hwk : IntKind.wrap .i64 (z + (k : Int)) = z + (k : Int) := by rw [IntKind.wrap_i64]; omega
          have HAT : Hid (Wq.at_ ⟨z, ls, 1, false⟩ ⟨20000, Wq.Fs [⟨Wq.baseN, Fr.frame (Pk.be8 z), 20⟩] has (Fr.frames ls) 0, false, 1⟩ (z + (k : Int)) = (x, 0, ⟨z, ls, 1, false⟩)) := Wq.at_fs k (by omega) HGE.out
          go_wp2_with fail
          refine (Duo.at_ HS.out D200.out (roomy_fs (by decide) (by simp)) (z + (k : Int)) (by omega) (by omega) x 0 HAT.out (by simp [Wq.off])).mono ?_
          rintro e w201 ⟨F201, G201, v201, rfl, hbs, hap, hD, hmv⟩
          have D201 : Hid (Duo LD LG W w201 qd ⟨20000, Wq.Fs [⟨Wq.baseN, Fr.frame (Pk.be8 z), 20⟩] has (Fr.frames ls) 0, false, 1⟩ F201 ql ⟨z, ls, 1, false⟩ G201) := hD
          have XB201 : Hid (Bs w201 v201 x ∧ Apart (both F201 G201) v201 x) := ⟨hbs, hap⟩
          clear hD hmv hbs hap
          have HWB : Hid (Below W.heap.size W w201) := D201.out.mine.below
          obtain ⟨X, hX⟩ : ∃ X : ByteArray, X = ⟨x.toArray⟩ := ⟨_, rfl⟩
          have HSB : Hid (∀ u, Below w201.heap.size w201 u → (convert 31 9 v201).run Try.prog u = .ok (.string X) u ∧ (convert 31 9 (.slice ax nx cx)).run Try.prog u = .ok (.string X) u ∧ u.cell? ⟨g, o + k, none⟩ = some (.slice ax nx cx)) := fun u hb => by
            rw [hX]
            exact ⟨(XB201.out.1.below hb).conv, ((HBX.out.below HWB.out).below hb).conv, Below.kept hb (HCL.out _ HWB.out)⟩
          clear hX
          go_wp2_with fail
          refine wp_region_held_drew (S := fun u => (convert 31 9 v201).run Try.prog u = .ok (.string X) u ∧ (convert 31 9 (.slice ax nx cx)).run Try.prog u = .ok (.string X) u ∧ u.cell? ⟨g, o + k, none⟩ = some (.slice ax nx cx)) (by kernel_rfl) (HSB.out _ (Below.refl _ _).drew) (fun _ => ?_)
          have HSX : Hid ((convert 31 9 v201).run Try.prog w201.drew = .ok (.string X) w201.drew ∧ (convert 31 9 (.slice ax nx cx)).run Try.prog w201.drew = .ok (.string X) w201.drew ∧ w201.drew.cell? ⟨g, o + k, none⟩ = some (.slice ax nx cx)) := HSB.out _ (Below.refl _ _).drew
          have HDX : Hid (∃ F G, Duo LD LG W w201.drew qd ⟨20000, Wq.Fs [⟨Wq.baseN, Fr.frame (Pk.be8 z), 20⟩] has (Fr.frames ls) 0, false, 1⟩ F ql ⟨z, ls, 1, false⟩ G) := ⟨_, _, D201.out.later H7.out HS.out (Below.refl _ _).drew⟩
          generalize w201.drew = wX at *
          refine' take_at (i := 0) (d := 98) (v := _) rfl rfl (by kernel_rfl) (by kernel_rfl) (by kernel_rfl) (fun _ _ _ h => h) (Or.inl ⟨by rfl, ?h0⟩) HSX.out ?_
          case h0 => intro w hSw; go_simp; with_reducible rfl
          simp only [List.setIfInBounds_toArray, List.set_cons_zero, List.set_cons_succ]
          refine' take_at (i := 1) (d := 99) (v := _) rfl rfl (by kernel_rfl) (by kernel_rfl) (by kernel_rfl) (fun _ _ _ h => h) (Or.inl ⟨by rfl, ?h1⟩) HSX.out ?_
          case h1 => intro w hSw; go_simp; with_reducible rfl
          simp only [List.setIfInBounds_toArray, List.set_cons_zero, List.set_cons_succ]
          refine' take_at (i := 2) (d := 100) (v := _) rfl rfl (by kernel_rfl) (by kernel_rfl) (by kernel_rfl) (fun _ _ _ h => h) (Or.inl ⟨by rfl, ?h2⟩) HSX.out ?_
          case h2 => intro w hSw; go_simp; with_reducible rfl
          simp only [List.setIfInBounds_toArray, List.set_cons_zero, List.set_cons_succ]
          refine' take_at (i := 3) (d := 101) (v := _) rfl rfl (by kernel_rfl) (by kernel_rfl) (by kernel_rfl) (fun _ _ _ h => h) (Or.inl ⟨by rfl, ?h3⟩) HSX.out ?_
          case h3 => intro w hSw; go_simp; with_reducible rfl
          simp only [List.setIfInBounds_toArray, List.set_cons_zero, List.set_cons_succ]
          refine' take_at (i := 4) (d := 102) (v := _) rfl rfl (by kernel_rfl) (by kernel_rfl) (by kernel_rfl) (fun _ _ _ h => h) (Or.inl ⟨by rfl, ?h4⟩) HSX.out ?_
          case h4 => intro w hSw; obtain ⟨s1, s2, s3⟩ := hSw; go_simp; with_reducible rfl
          simp only [List.setIfInBounds_toArray, List.set_cons_zero, List.set_cons_succ]
          refine' take_at (i := 5) (d := 103) (v := _) rfl rfl (by kernel_rfl) (by kernel_rfl) (by kernel_rfl) (fun _ _ _ h => h) (Or.inl ⟨by rfl, ?h5⟩) HSX.out ?_
          case h5 => intro w hSw; go_simp; with_reducible rfl
          simp only [List.setIfInBounds_toArray, List.set_cons_zero, List.set_cons_succ]
          refine' take_at (i := 6) (d := 104) (v := _) rfl rfl (by kernel_rfl) (by kernel_rfl) (by kernel_rfl) (fun _ _ _ h => h) (Or.inl ⟨by rfl, ?h6⟩) HSX.out ?_
          case h6 => intro w hSw; go_simp; with_reducible rfl
          simp only [List.setIfInBounds_toArray, List.set_cons_zero, List.set_cons_succ]
          refine' take_at (i := 7) (d := 105) (v := _) rfl rfl (by kernel_rfl) (by kernel_rfl) (by kernel_rfl) (fun _ _ _ h => h) (Or.inl ⟨by rfl, ?h7⟩) HSX.out ?_
          case h7 => intro w hSw; go_simp; with_reducible rfl
          simp only [List.setIfInBounds_toArray, List.set_cons_zero, List.set_cons_succ]
          refine' take_at (i := 8) (d := 106) (v := _) rfl rfl (by kernel_rfl) (by kernel_rfl) (by kernel_rfl) (fun _ _ _ h => h) (Or.inl ⟨by rfl, ?h8⟩) HSX.out ?_
          case h8 => intro w hSw; obtain ⟨s1, s2, s3⟩ := hSw; go_simp; with_reducible rfl
          simp only [List.setIfInBounds_toArray, List.set_cons_zero, List.set_cons_succ]
          refine' take_at (i := 9) (d := 107) (v := _) rfl rfl (by kernel_rfl) (by kernel_rfl) (by kernel_rfl) (fun _ _ _ h => h) (Or.inl ⟨by rfl, ?h9⟩) HSX.out ?_
          case h9 => intro w hSw; obtain ⟨s1, s2, s3⟩ := hSw; go_simp; with_reducible rfl
          simp only [List.setIfInBounds_toArray, List.set_cons_zero, List.set_cons_succ]
          refine' take_at (i := 10) (d := 108) (v := _) rfl rfl (by kernel_rfl) (by kernel_rfl) (by kernel_rfl) (fun _ _ _ h => h) (Or.inl ⟨by rfl, ?h10⟩) HSX.out ?_
          case h10 => intro w hSw; go_simp; with_reducible rfl
          simp only [List.setIfInBounds_toArray, List.set_cons_zero, List.set_cons_succ]
          refine' take_at (i := 11) (d := 109) (v := _) rfl rfl (by kernel_rfl) (by kernel_rfl) (by kernel_rfl) (fun _ _ _ h => h) (Or.inl ⟨by rfl, ?h11⟩) HSX.out ?_
          case h11 => intro w hSw; go_simp; with_reducible rfl
          simp only [List.setIfInBounds_toArray, List.set_cons_zero, List.set_cons_succ]
          refine wpAnyH_done (by kernel_rfl) ?_ _
          go_wp2
          go_roundw
          case rel => exact ⟨k + 1, by omega, by go_num, HDX.out⟩
          case measure => simp [intOf]; omega
        · have hlw' : ¬ (k : Int) < (n : Int) := by omega
          obtain ⟨w200, rfl⟩ : ∃ u, u = wr := ⟨_, rfl⟩
          go_wp2_with fail
          refine (Duo.first H7.out HS.out D200.out z rfl).mono ?_
          rintro e w201 ⟨rfl, hD, hb⟩
          obtain ⟨F201, G201, hFG⟩ : ∃ F201 G201 : Nat → Prop, F201 = F200 ∧ G201 = G200 := ⟨_, _, rfl, rfl⟩
          rw [← hFG.1, ← hFG.2] at hD
          have D201 : Hid (Duo LD LG W w201 qd ⟨20000, Wq.Fs [⟨Wq.baseN, Fr.frame (Pk.be8 z), 20⟩] has (Fr.frames ls) 0, false, 1⟩ F201 ql ⟨z, ls, 1, false⟩ G201) := hD
          clear hD hb hFG
          go_wp2_with fail
          refine (Duo.next H7.out HS.out D201.out (z + (n : Int)) HNL.out).mono ?_
          rintro e w202 ⟨rfl, hD, hb⟩
          obtain ⟨F202, G202, hFG⟩ : ∃ F202 G202 : Nat → Prop, F202 = F201 ∧ G202 = G201 := ⟨_, _, rfl, rfl⟩
          rw [← hFG.1, ← hFG.2] at hD
          have D202 : Hid (Duo LD LG W w202 qd ⟨20000, Wq.Fs [⟨Wq.baseN, Fr.frame (Pk.be8 z), 20⟩] has (Fr.frames ls) 0, false, 1⟩ F202 ql ⟨z, ls, 1, false⟩ G202) := hD
          clear hD hb hFG
          go_wp2
          go_ret
          exact ⟨rfl, D202.out.mine.below⟩
end Go.Proofs.Ytmbpkbdaakchiab
