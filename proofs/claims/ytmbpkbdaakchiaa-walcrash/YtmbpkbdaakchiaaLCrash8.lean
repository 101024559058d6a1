/- What WalCrash answers. -/
import Derived.Test.YtmbpkbdaakchiaaLAwake8
import Derived.Test.YtmbpkbdaakchiaaTakeAt
import Derived.Deep.DeepCutAuto
namespace Go.Proofs.Ytmbpkbdaakchiaa
open Go.RowKit

set_option maxRecDepth 20000 in
set_option maxHeartbeats 4000000 in
theorem crash_any8 {LD : Rep} {LG : RepG} (S7 : Specs7 LD) (S : Specs8 LD LG) (vl : Value) (ls : List (List UInt8)) (sy0 keep : Int) (W : World) (hl : Bl W vl ls) (hll : ls.length ≤ maxLen) (hlx : ∀ x ∈ ls, x.length ≤ maxLen) (hk : -9223372036854775808 ≤ keep ∧ keep ≤ 9223372036854775807) :
    Calls Try.prog 4 #[vl, .int .i64 sy0, .int .i64 keep] W fun e w' => e = .returned (.bool true) ∧ Below W.heap.size W w' := by
  have H7 : Hid (Specs7 LD) := S7
  have HS : Hid (Specs8 LD LG) := S
  clear S7 S
  have kc := fun (w : World) (C : Array Value) (n c : Nat) => Lib.run_convert_bytes_const (P := Try.prog) w 31 5 C n c Try.underlying31 Try.underlying5
  have HL : Hid (Bl W vl ls ∧ ∀ x ∈ ls, x.length ≤ maxLen) := ⟨hl, hlx⟩
  obtain ⟨al, n, cl, rfl, hn, hX⟩ := hl
  have HN : Hid (n = ls.length) := hn
  have hn1 : n ≤ 9223372036854775807 := by unfold maxLen at hll; omega
  clear hX hn hll hlx
  have HK : Hid (-9223372036854775808 ≤ keep ∧ keep ≤ 9223372036854775807) := hk
  clear hk
  go_enter Try.func4, Try.ntmps4
  go_wp2_with fail
  refine (awake_any8 H7.out HS.out W).mono ?_
  rintro e w0 ⟨rfl, hb⟩
  have B0 : Hid (Below W.heap.size W w0) := hb
  clear hb
  by_cases g1 : 20 < n
  · have g12 : (20 : Int) < (n : Int) := by omega
    go_wp2
    go_ret
    exact ⟨rfl, B0.out⟩
  have g12 : ¬ (20 : Int) < (n : Int) := by omega
  by_cases g2 : sy0 < 0
  · go_wp2
    go_ret
    exact ⟨rfl, B0.out⟩
  by_cases g3 : (n : Int) < sy0
  · go_wp2
    go_ret
    exact ⟨rfl, B0.out⟩
  obtain ⟨sy, rfl⟩ : ∃ z : Nat, sy0 = (z : Int) := ⟨sy0.toNat, by omega⟩
  go_wp2_with fail
  refine (mine_new H7.out B0.out 20000 (by decide)).mono ?_
  rintro e w1 ⟨qd, F1, rfl, hM⟩
  have M1 : Hid (Mine LD W w1 qd ⟨20000, Wq.Fs [] false (Fr.frames []) 0, false, 1⟩ F1) := hM
  clear hM
  go_wp2_with fail
  refine (Mine.opn HS.out M1.out (roomy_fs (by decide) (by simp)) (Wq.opn_none (Or.inl ⟨rfl, rfl⟩))).mono ?_
  rintro e w2 ⟨ql, F2, G2, rfl, hD, hmv, hnw⟩
  have D2 : Hid (Duo LD LG W w2 qd ⟨20000, Wq.Fs [] false (Fr.frames []) 0, false, 1⟩ F2 ql ⟨1, [], 1, false⟩ G2) := hD
  clear hD hmv hnw
  have A0 : Hid (AddS LD LG W w2 qd ql 20000 (if sy ≤ 0 then (Fr.frames (ls.take sy)).length else 0) [] 1 []) := by
    have e : (if sy ≤ 0 then (Fr.frames (ls.take sy)).length else 0) = 0 := by
      split
      · rename_i h
        rw [show sy = 0 by omega]
        rfl
      · rfl
    rw [e]
    exact ⟨_, _, false, D2.out, fun _ => ⟨rfl, rfl⟩⟩
  go_wp2
  go_loopw [11] (fun i wr => ∃ k : Nat, k ≤ n ∧ i = .int .i64 (k : Int) ∧ (∀ x ∈ ls.take k, x.length ≤ 300) ∧ AddS LD LG W wr qd ql 20000 (if sy ≤ k then (Fr.frames (ls.take sy)).length else 0) [] 1 (ls.take k)) (fun i _ => ((n : Int) - intOf i).toNat)
  case atStart => exact ⟨0, Nat.zero_le _, rfl, fun x hx => (by cases hx), A0.out⟩
  case round =>
    obtain ⟨k, hk, rfl, hall, hrs⟩ := hrel
    have HR : Hid ((∀ x ∈ ls.take k, x.length ≤ 300) ∧ AddS LD LG W wr qd ql 20000 (if sy ≤ k then (Fr.frames (ls.take sy)).length else 0) [] 1 (ls.take k)) := ⟨hall, hrs⟩
    clear hall hrs
    by_cases hlt : k < n
    · have hlt' : (k : Int) < (n : Int) := by omega
      have hkl : k < ls.length := by rw [← HN.out]; exact hlt
      obtain ⟨av, kv, cv, hv, hkv, hcs⟩ := HL.out.1
      obtain ⟨g, o, vx, hal, hcell, hbx⟩ := hcs k ls[k] (List.getElem?_eq_getElem hkl)
      simp only [Value.slice.injEq] at hv
      obtain ⟨rfl, hq2, rfl⟩ := hv
      subst hal
      have hxl := HL.out.2 _ (List.getElem_mem hkl)
      have hts : ls.take (k + 1) = ls.take k ++ [ls[k]] := List.take_succ_eq_append_getElem hkl
      have HGE : Hid (ls[k]? = some ls[k]) := List.getElem?_eq_getElem hkl
      generalize ls[k] = x at *
      have HTS : Hid (ls.take (k + 1) = ls.take k ++ [x]) := hts
      clear hcs hkv hkl hq2 hts
      have HBX : Hid (Bs W vx x) := hbx
      obtain ⟨ax, nx, cx, rfl, hnx, hY⟩ := hbx
      have HNX : Hid (nx = x.length) := hnx
      have hnx1 : nx ≤ 9223372036854775807 := by unfold maxLen at hxl; omega
      clear hY hnx hxl
      have hk0 : (0 : Int) ≤ (k : Int) := by omega
      have HCL : Hid (∀ w', Below W.heap.size W w' → w'.cell? ⟨g, o + k, none⟩ = some (.slice ax nx cx)) := fun w' hb => Below.kept hb hcell
      clear hcell
      have hc1 := HCL.out wr HR.out.2.below
      by_cases h300 : 300 < nx
      · have h300' : (300 : Int) < (nx : Int) := by omega
        go_wp2
        go_ret
        exact ⟨rfl, HR.out.2.below⟩
      have h300' : ¬ (300 : Int) < (nx : Int) := by omega
      have HFL : Hid ((Fr.frames (ls.take k)).length ≤ 6300 ∧ (ls.take k).length ≤ 100) := by
        have h1 := Fr.frames_max _ 300 HR.out.1
        have h2 : (ls.take k).length ≤ k := by rw [List.length_take]; omega
        have h3 : (ls.take k).length * (12 + 300) ≤ k * (12 + 300) := Nat.mul_le_mul_right _ h2
        exact ⟨by omega, by omega⟩
      go_wp2_with fail
      clear hc1
      refine (HR.out.2.add HS.out (Wq.BaseIs.low (n := 1) (Or.inl ⟨rfl, rfl⟩)) (by simp) (by decide) (by have := HFL.out.2; omega) _ x HBX.out (by rw [← HNX.out]; omega) (by have := HFL.out.1; have := HNX.out; simp only [Dq.size, List.map_nil, List.sum_nil]; omega)).mono ?_
      rintro e wB ⟨rfl, hA⟩
      have HRB : Hid ((∀ y ∈ ls.take (k + 1), y.length ≤ 300) ∧ AddS LD LG W wB qd ql 20000 (if sy ≤ k then (Fr.frames (ls.take sy)).length else 0) [] 1 (ls.take (k + 1))) := by
        rw [HTS.out]
        refine ⟨fun y hy => ?_, hA⟩
        rcases List.mem_append.1 hy with h1 | h1
        · exact HR.out.1 y h1
        · simp only [List.mem_singleton] at h1
          rw [h1, ← HNX.out]
          omega
      clear hA
      have hwk : IntKind.wrap .i64 ((k : Int) + 1) = ((k + 1 : Nat) : Int) := by rw [IntKind.wrap_i64]; omega
      by_cases hsy : k + 1 = sy
      · have hsy' : (((k + 1 : Nat) : Int) == (sy : Int)) = true := by rw [hsy]; simp
        go_wp2_with fail
        refine (HRB.out.2.sync HS.out (Wq.BaseIs.low (n := 1) (Or.inl ⟨rfl, rfl⟩)) (by simp) (by decide)).mono ?_
        rintro e wC ⟨rfl, hA⟩
        have HRC : Hid (AddS LD LG W wC qd ql 20000 (if sy ≤ k + 1 then (Fr.frames (ls.take sy)).length else 0) [] 1 (ls.take (k + 1))) := by
          rw [if_pos (by omega), ← hsy]
          exact hA
        clear hA
        go_wp2
        go_roundw
        case rel => exact ⟨k + 1, by omega, by go_num, HRB.out.1, HRC.out⟩
        case measure => simp [intOf]; omega
      · have hsy' : (((k + 1 : Nat) : Int) == (sy : Int)) = false := by
          simp only [beq_eq_false_iff_ne]
          omega
        have HRC : Hid (AddS LD LG W wB qd ql 20000 (if sy ≤ k + 1 then (Fr.frames (ls.take sy)).length else 0) [] 1 (ls.take (k + 1))) := by
          have e : (if sy ≤ k + 1 then (Fr.frames (ls.take sy)).length else 0) = (if sy ≤ k then (Fr.frames (ls.take sy)).length else 0) := by
            by_cases h1 : sy ≤ k
            · rw [if_pos h1, if_pos (by omega)]
            · rw [if_neg h1, if_neg (by omega)]
          rw [e]
          exact HRB.out.2
        go_wp2
        go_roundw
        case rel => exact ⟨k + 1, by omega, by go_num, HRB.out.1, HRC.out⟩
        case measure => simp [intOf]; omega
    · have hlt' : ¬ (k : Int) < (n : Int) := by omega
      obtain ⟨F100, G100, has, hD2, hhas⟩ := HR.out.2
      have hall := HR.out.1
      have hkn : ls.take k = ls := List.take_of_length_le (by rw [← HN.out]; omega)
      rw [if_pos (by omega), hkn] at hD2
      rw [hkn] at hhas hall
      obtain ⟨ks, hks⟩ : ∃ ks, ks = (Fr.frames (ls.take sy)).length := ⟨_, rfl⟩
      rw [← hks] at hD2
      obtain ⟨c, hc⟩ : ∃ c, c = ks + min keep.toNat ((Fr.frames ls).length - ks) := ⟨_, rfl⟩
      have hks1 : ks ≤ (Fr.frames ls).length := by rw [hks]; exact Fr.frames_len_take _ _
      obtain ⟨w', hw1, hw2, hopn⟩ := Wq.opn_any (R := 20000) (lv := 2) (bs := []) (has := has) (n := 1) (l := ls) (c := c) (sy := sy) (Or.inl ⟨rfl, rfl⟩) (fun r hr => Nat.le_trans (hall r hr) (by decide)) (fun e => (hhas e).1) (by omega) (by rw [← HN.out]; omega) (by omega)
      have HOP : Hid (Wq.opn ⟨20000, Wq.Fs [] has ((Fr.frames ls).take c) c, false, 2⟩ = (0, some ⟨1, ls.take w', 2, false⟩, ⟨20000, Wq.Fs [] has (Fr.frames (ls.take w')) (Fr.frames (ls.take w')).length, false, 2⟩)) := hopn
      have HCR : Hid (Dq.crash ⟨20000, Wq.Fs [] has (Fr.frames ls) ks, false, 1⟩ keep = ⟨20000, Wq.Fs [] has ((Fr.frames ls).take c) c, true, 1⟩) := by
        rw [hc]
        exact Wq.crash_fs (Wq.BaseIs.safe (n := 1) (Or.inl ⟨rfl, rfl⟩)) _ _
      have D100 : Hid (Duo LD LG W wr qd ⟨20000, Wq.Fs [] has (Fr.frames ls) ks, false, 1⟩ F100 ql ⟨1, ls, 1, false⟩ G100) := hD2
      have HWL : Hid (w' ≤ ls.length ∧ (has = false → ls = []) ∧ ∀ x ∈ ls, x.length ≤ 300) := ⟨hw2, fun e => (hhas e).1, hall⟩
      have hw2n : w' ≤ n := by rw [HN.out]; exact hw2
      obtain ⟨ms, hms⟩ : ∃ ms, ms = ls.take w' := ⟨_, rfl⟩
      have HMS : Hid (ms = ls.take w' ∧ ms.length = w' ∧ (Fr.frames ms).length ≤ 6300) := by
        have h2 : ms.length = w' := by rw [hms, List.length_take]; omega
        have h1 := Fr.frames_max ms 300 (fun x hx => hall x (by rw [hms] at hx; exact List.mem_of_mem_take hx))
        have h3 : ms.length * (12 + 300) ≤ 20 * (12 + 300) := Nat.mul_le_mul_right _ (by omega)
        exact ⟨hms, h2, by omega⟩
      rw [← hms] at HOP
      clear hD2 hhas hall hkn hks hc hks1 hopn hw2 hms
      go_wp2_with fail
      refine (Duo.crash H7.out HS.out D100.out keep HK.out.1 HK.out.2 _ HCR.out).mono ?_
      rintro e w101 ⟨F101, rfl, hD, hmv⟩
      obtain ⟨G101, hFG⟩ : ∃ z : Nat → Prop, z = G100 := ⟨_, rfl⟩
      rw [← hFG] at hD
      have D101 : Hid (Duo LD LG W w101 qd ⟨20000, Wq.Fs [] has ((Fr.frames ls).take c) c, true, 1⟩ F101 ql ⟨1, ls, 1, false⟩ G101) := hD
      clear hD hmv hFG
      go_wp2_with fail
      refine (Duo.on H7.out HS.out D101.out (by simp) _ rfl).mono ?_
      rintro e w102 ⟨F102, rfl, hD, hmv⟩
      obtain ⟨G102, hFG⟩ : ∃ z : Nat → Prop, z = G101 := ⟨_, rfl⟩
      rw [← hFG] at hD
      have D102 : Hid (Duo LD LG W w102 qd ⟨20000, Wq.Fs [] has ((Fr.frames ls).take c) c, false, 2⟩ F102 ql ⟨1, ls, 1, false⟩ G102) := hD
      clear hD hmv hFG
      go_wp2_with fail
      refine (Mine.opn HS.out D102.out.mine (roomy_fs (by decide) (by simp)) HOP.out).mono ?_
      rintro e w103 ⟨qm, F103, G103, rfl, hD, hmv, hnw⟩
      have D103 : Hid (Duo LD LG W w103 qd ⟨20000, Wq.Fs [] has (Fr.frames ms) (Fr.frames ms).length, false, 2⟩ F103 qm ⟨1, ms, 2, false⟩ G103) := hD
      clear hD hmv hnw
      have HNX1 : Hid (Wq.next ⟨1, ms, 2, false⟩ = ((w' + 1 : Nat) : Int)) := by
        have h : Wq.next ⟨1, ms, 2, false⟩ = ((w' + 1 : Nat) : Int) := by
          simp only [Wq.next, HMS.out.2.1]
          omega
        exact h
      go_wp2_with fail
      refine (Duo.next H7.out HS.out D103.out ((w' + 1 : Nat) : Int) HNX1.out).mono ?_
      rintro e w104 ⟨rfl, hD, hb⟩
      obtain ⟨F104, G104, hFG⟩ : ∃ F104 G104 : Nat → Prop, F104 = F103 ∧ G104 = G103 := ⟨_, _, rfl, rfl⟩
      rw [← hFG.1, ← hFG.2] at hD
      have D104 : Hid (Duo LD LG W w104 qd ⟨20000, Wq.Fs [] has (Fr.frames ms) (Fr.frames ms).length, false, 2⟩ F104 qm ⟨1, ms, 2, false⟩ G104) := hD
      clear hD hb hFG
      have hsub : IntKind.wrap .i64 (((w' + 1 : Nat) : Int) - 1) = (w' : Int) := by rw [IntKind.wrap_i64]; omega
      have c1 : ¬ (w' : Int) < (sy : Int) := by omega
      have c2 : ¬ (n : Int) < (w' : Int) := by omega
      have d1 : decide (w' < sy) = false := by simp only [decide_eq_false_iff_not]; omega
      have d2 : decide (n < w') = false := by simp only [decide_eq_false_iff_not]; omega
      go_wp2_with fail
      refine (Duo.first H7.out HS.out D104.out 1 rfl).mono ?_
      rintro e w105 ⟨rfl, hD, hb⟩
      obtain ⟨F105, G105, hFG⟩ : ∃ F105 G105 : Nat → Prop, F105 = F104 ∧ G105 = G104 := ⟨_, _, rfl, rfl⟩
      rw [← hFG.1, ← hFG.2] at hD
      have D105 : Hid (Duo LD LG W w105 qd ⟨20000, Wq.Fs [] has (Fr.frames ms) (Fr.frames ms).length, false, 2⟩ F105 qm ⟨1, ms, 2, false⟩ G105) := hD
      clear hD hb hFG
      clear hsub
      have E0 : Hid (∃ F G, Duo LD LG W w105 qd ⟨20000, Wq.Fs [] has (Fr.frames ms) (Fr.frames ms).length, false, 2⟩ F qm ⟨1, ms, 2, false⟩ G) := ⟨_, _, D105.out⟩
      go_wp2
      go_loopw [15] (fun i wr => ∃ k : Nat, k ≤ w' ∧ i = .int .i64 (k : Int) ∧ ∃ F G, Duo LD LG W wr qd ⟨20000, Wq.Fs [] has (Fr.frames ms) (Fr.frames ms).length, false, 2⟩ F qm ⟨1, ms, 2, false⟩ G) (fun i _ => ((w' : Int) - intOf i).toNat)
      case atStart => exact ⟨0, Nat.zero_le _, rfl, E0.out⟩
      case round =>
        obtain ⟨k, hk, rfl, F200, G200, hD⟩ := hrel
        have D200 : Hid (Duo LD LG W wr qd ⟨20000, Wq.Fs [] has (Fr.frames ms) (Fr.frames ms).length, false, 2⟩ F200 qm ⟨1, ms, 2, false⟩ G200) := hD
        clear hD
        by_cases hlw : k < w'
        · have hlt' : (k : Int) < (w' : Int) := by omega
          have hltn : (k : Int) < (n : Int) := by omega
          have hlt : k < n := by omega
          have hkl : k < ls.length := by rw [← HN.out]; exact hlt
          obtain ⟨av, kv, cv, hv, hkv, hcs⟩ := HL.out.1
          obtain ⟨g, o, vx, hal, hcell, hbx⟩ := hcs k ls[k] (List.getElem?_eq_getElem hkl)
          simp only [Value.slice.injEq] at hv
          obtain ⟨rfl, hq2, rfl⟩ := hv
          subst hal
          have hxl := HL.out.2 _ (List.getElem_mem hkl)
          have hts : ls.take (k + 1) = ls.take k ++ [ls[k]] := List.take_succ_eq_append_getElem hkl
          have HGE : Hid (ls[k]? = some ls[k]) := List.getElem?_eq_getElem hkl
          generalize ls[k] = x at *
          have HTS : Hid (ls.take (k + 1) = ls.take k ++ [x]) := hts
          clear hcs hkv hkl hq2 hts
          have HBX : Hid (Bs W vx x) := hbx
          obtain ⟨ax, nx, cx, rfl, hnx, hY⟩ := hbx
          have HNX : Hid (nx = x.length) := hnx
          have hnx1 : nx ≤ 9223372036854775807 := by unfold maxLen at hxl; omega
          clear hY hnx hxl
          have hk0 : (0 : Int) ≤ (k : Int) := by omega
          have HCL : Hid (∀ w', Below W.heap.size W w' → w'.cell? ⟨g, o + k, none⟩ = some (.slice ax nx cx)) := fun w' hb => Below.kept hb hcell
          clear hcell
          have hwk : IntKind.wrap .i64 ((k : Int) + 1) = ((k + 1 : Nat) : Int) := by rw [IntKind.wrap_i64]; omega
          have HAT : Hid (Wq.at_ ⟨1, ms, 2, false⟩ ⟨20000, Wq.Fs [] has (Fr.frames ms) (Fr.frames ms).length, false, 2⟩ ((k + 1 : Nat) : Int) = (x, 0, ⟨1, ms, 2, false⟩)) := Wq.at_fs k (by omega) (by rw [HMS.out.1, List.getElem?_take]; rw [if_pos hlw]; exact HGE.out)
          go_wp2_with fail
          refine (Duo.at_ HS.out D200.out (roomy_fs (by decide) (by simp)) ((k + 1 : Nat) : Int) (by omega) (by omega) x 0 HAT.out (by simp [Wq.off])).mono ?_
          rintro e w201 ⟨F201, G201, v201, rfl, hbs, hap, hD, hmv⟩
          have D201 : Hid (Duo LD LG W w201 qd ⟨20000, Wq.Fs [] has (Fr.frames ms) (Fr.frames ms).length, false, 2⟩ F201 qm ⟨1, ms, 2, false⟩ G201) := hD
          have XB201 : Hid (Bs w201 v201 x ∧ Apart (both F201 G201) v201 x) := ⟨hbs, hap⟩
          clear hD hmv hbs hap
          have HWB : Hid (Below W.heap.size W w201) := D201.out.mine.below
          obtain ⟨X, hX⟩ : ∃ X : ByteArray, X = ⟨x.toArray⟩ := ⟨_, rfl⟩
          have HSB : Hid (∀ u, Below w201.heap.size w201 u → (convert 31 9 v201).run Try.prog u = .ok (.string X) u ∧ (convert 31 9 (.slice ax nx cx)).run Try.prog u = .ok (.string X) u ∧ u.cell? ⟨g, o + k, none⟩ = some (.slice ax nx cx)) := fun u hb => by
            rw [hX]
            exact ⟨(XB201.out.1.below hb).conv, ((HBX.out.below HWB.out).below hb).conv, Below.kept hb (HCL.out _ HWB.out)⟩
          clear hX
          go_wp2_with fail
          refine wp_region_held_drew (S := fun u => (convert 31 9 v201).run Try.prog u = .ok (.string X) u ∧ (convert 31 9 (.slice ax nx cx)).run Try.prog u = .ok (.string X) u ∧ u.cell? ⟨g, o + k, none⟩ = some (.slice ax nx cx)) (by kernel_rfl) (HSB.out _ (Below.refl _ _).drew) (fun _ => ?_)
          have HSX : Hid ((convert 31 9 v201).run Try.prog w201.drew = .ok (.string X) w201.drew ∧ (convert 31 9 (.slice ax nx cx)).run Try.prog w201.drew = .ok (.string X) w201.drew ∧ w201.drew.cell? ⟨g, o + k, none⟩ = some (.slice ax nx cx)) := HSB.out _ (Below.refl _ _).drew
          have HDX : Hid (∃ F G, Duo LD LG W w201.drew qd ⟨20000, Wq.Fs [] has (Fr.frames ms) (Fr.frames ms).length, false, 2⟩ F qm ⟨1, ms, 2, false⟩ G) := ⟨_, _, D201.out.later H7.out HS.out (Below.refl _ _).drew⟩
          generalize w201.drew = wX at *
          refine' take_at (i := 0) (d := 119) (v := _) rfl rfl (by kernel_rfl) (by kernel_rfl) (by kernel_rfl) (fun _ _ _ h => h) (Or.inl ⟨by rfl, ?h0⟩) HSX.out ?_
          case h0 => intro w hSw; go_simp; with_reducible rfl
          simp only [List.setIfInBounds_toArray, List.set_cons_zero, List.set_cons_succ]
          refine' take_at (i := 1) (d := 120) (v := _) rfl rfl (by kernel_rfl) (by kernel_rfl) (by kernel_rfl) (fun _ _ _ h => h) (Or.inl ⟨by rfl, ?h1⟩) HSX.out ?_
          case h1 => intro w hSw; go_simp; with_reducible rfl
          simp only [List.setIfInBounds_toArray, List.set_cons_zero, List.set_cons_succ]
          refine' take_at (i := 2) (d := 121) (v := _) rfl rfl (by kernel_rfl) (by kernel_rfl) (by kernel_rfl) (fun _ _ _ h => h) (Or.inl ⟨by rfl, ?h2⟩) HSX.out ?_
          case h2 => intro w hSw; go_simp; with_reducible rfl
          simp only [List.setIfInBounds_toArray, List.set_cons_zero, List.set_cons_succ]
          refine' take_at (i := 3) (d := 122) (v := _) rfl rfl (by kernel_rfl) (by kernel_rfl) (by kernel_rfl) (fun _ _ _ h => h) (Or.inl ⟨by rfl, ?h3⟩) HSX.out ?_
          case h3 => intro w hSw; go_simp; with_reducible rfl
          simp only [List.setIfInBounds_toArray, List.set_cons_zero, List.set_cons_succ]
          refine' take_at (i := 4) (d := 123) (v := _) rfl rfl (by kernel_rfl) (by kernel_rfl) (by kernel_rfl) (fun _ _ _ h => h) (Or.inl ⟨by rfl, ?h4⟩) HSX.out ?_
          case h4 => intro w hSw; obtain ⟨s1, s2, s3⟩ := hSw; go_simp; with_reducible rfl
          simp only [List.setIfInBounds_toArray, List.set_cons_zero, List.set_cons_succ]
          refine' take_at (i := 5) (d := 124) (v := _) rfl rfl (by kernel_rfl) (by kernel_rfl) (by kernel_rfl) (fun _ _ _ h => h) (Or.inl ⟨by rfl, ?h5⟩) HSX.out ?_
          case h5 => intro w hSw; go_simp; with_reducible rfl
          simp only [List.setIfInBounds_toArray, List.set_cons_zero, List.set_cons_succ]
          refine' take_at (i := 6) (d := 125) (v := _) rfl rfl (by kernel_rfl) (by kernel_rfl) (by kernel_rfl) (fun _ _ _ h => h) (Or.inl ⟨by rfl, ?h6⟩) HSX.out ?_
          case h6 => intro w hSw; go_simp; with_reducible rfl
          simp only [List.setIfInBounds_toArray, List.set_cons_zero, List.set_cons_succ]
          refine' take_at (i := 7) (d := 126) (v := _) rfl rfl (by kernel_rfl) (by kernel_rfl) (by kernel_rfl) (fun _ _ _ h => h) (Or.inl ⟨by rfl, ?h7⟩) HSX.out ?_
          case h7 => intro w hSw; go_simp; with_reducible rfl
          simp only [List.setIfInBounds_toArray, List.set_cons_zero, List.set_cons_succ]
          refine' take_at (i := 8) (d := 127) (v := _) rfl rfl (by kernel_rfl) (by kernel_rfl) (by kernel_rfl) (fun _ _ _ h => h) (Or.inl ⟨by rfl, ?h8⟩) HSX.out ?_
          case h8 => intro w hSw; obtain ⟨s1, s2, s3⟩ := hSw; go_simp; with_reducible rfl
          simp only [List.setIfInBounds_toArray, List.set_cons_zero, List.set_cons_succ]
          refine' take_at (i := 9) (d := 128) (v := _) rfl rfl (by kernel_rfl) (by kernel_rfl) (by kernel_rfl) (fun _ _ _ h => h) (Or.inl ⟨by rfl, ?h9⟩) HSX.out ?_
          case h9 => intro w hSw; obtain ⟨s1, s2, s3⟩ := hSw; go_simp; with_reducible rfl
          simp only [List.setIfInBounds_toArray, List.set_cons_zero, List.set_cons_succ]
          refine' take_at (i := 10) (d := 129) (v := _) rfl rfl (by kernel_rfl) (by kernel_rfl) (by kernel_rfl) (fun _ _ _ h => h) (Or.inl ⟨by rfl, ?h10⟩) HSX.out ?_
          case h10 => intro w hSw; go_simp; with_reducible rfl
          simp only [List.setIfInBounds_toArray, List.set_cons_zero, List.set_cons_succ]
          refine' take_at (i := 11) (d := 130) (v := _) rfl rfl (by kernel_rfl) (by kernel_rfl) (by kernel_rfl) (fun _ _ _ h => h) (Or.inl ⟨by rfl, ?h11⟩) HSX.out ?_
          case h11 => intro w hSw; go_simp; with_reducible rfl
          simp only [List.setIfInBounds_toArray, List.set_cons_zero, List.set_cons_succ]
          refine wpAnyH_done (by kernel_rfl) ?_ _
          go_wp2
          go_roundw
          case rel => exact ⟨k + 1, by omega, by go_num, HDX.out⟩
          case measure => simp [intOf]; omega
        · have hlw' : ¬ (k : Int) < (w' : Int) := by omega
          obtain rfl : k = w' := by omega
          obtain ⟨w200, rfl⟩ : ∃ u, u = wr := ⟨_, rfl⟩
          go_wp2_with fail
          obtain ⟨q201, hq⟩ : ∃ z, z = w200.heap.size := ⟨_, rfl⟩
          rw [← hq]
          have hfr : Duo LD LG W (w200.alloc (.cells #[.int .u8 122] 5 (1, 2))) qd ⟨20000, Wq.Fs [] has (Fr.frames ms) (Fr.frames ms).length, false, 2⟩ F200 qm ⟨1, ms, 2, false⟩ G200 ∧ Bs (w200.alloc (.cells #[.int .u8 122] 5 (1, 2))) (.slice (some ⟨q201, 0, none⟩) 1 1) [122] ∧ Apart F200 (.slice (some ⟨q201, 0, none⟩) 1 1) [122] ∧ Apart G200 (.slice (some ⟨q201, 0, none⟩) 1 1) [122] := by rw [hq]; exact Duo.fresh H7.out HS.out D200.out [122] 5 _
          generalize w200.alloc (.cells #[.int .u8 122] 5 (1, 2)) = w201 at *
          obtain ⟨F201, G201, hFG⟩ : ∃ F201 G201 : Nat → Prop, F201 = F200 ∧ G201 = G200 := ⟨_, _, rfl, rfl⟩
          rw [← hFG.1, ← hFG.2] at hfr
          have D201 : Hid (Duo LD LG W w201 qd ⟨20000, Wq.Fs [] has (Fr.frames ms) (Fr.frames ms).length, false, 2⟩ F201 qm ⟨1, ms, 2, false⟩ G201) := hfr.1
          have L201 : Hid (Bs w201 (.slice (some ⟨q201, 0, none⟩) 1 1) [122] ∧ Apart F201 (.slice (some ⟨q201, 0, none⟩) 1 1) [122] ∧ Apart G201 (.slice (some ⟨q201, 0, none⟩) 1 1) [122]) := hfr.2
          clear hfr hq hFG
          refine (Duo.add HS.out D201.out (roomy_fs (by decide) (by simp)) (by simp only []; have := HMS.out.2.1; omega) (.slice (some ⟨q201, 0, none⟩) 1 1) [122] L201.out.1 (by decide) L201.out.2.1 L201.out.2.2 _ _ _ (Wq.add_fs (Wq.BaseIs.low (n := 1) (Or.inl ⟨rfl, rfl⟩)) (fun e => ⟨by rw [HMS.out.1, HWL.out.2.1 e]; simp [Fr.frames], by rw [HMS.out.1, HWL.out.2.1 e]; simp [Fr.frames]⟩) (by decide) (by have := HMS.out.2.2; simp [Dq.size]; omega)) (by simp [Wq.off])).mono ?_
          rintro e w202 ⟨F202, G202, rfl, hD, hmv⟩
          have D202 : Hid (Duo LD LG W w202 qd ⟨20000, Wq.Fs [] true (Fr.frames (ms ++ [[122]])) (Fr.frames ms).length, false, 2⟩ F202 qm ⟨1, (ms ++ [[122]]), 2, false⟩ G202) := hD
          clear hD hmv
          have HNX2 : Hid (Wq.next ⟨1, ms ++ [[122]], 2, false⟩ = ((k + 2 : Nat) : Int)) := by
            have h : Wq.next ⟨1, ms ++ [[122]], 2, false⟩ = ((k + 2 : Nat) : Int) := by
              simp only [Wq.next, List.length_append, HMS.out.2.1, List.length_singleton]
              omega
            exact h
          go_wp2_with fail
          refine (Duo.next H7.out HS.out D202.out ((k + 2 : Nat) : Int) HNX2.out).mono ?_
          rintro e w203 ⟨rfl, hD, hb⟩
          obtain ⟨F203, G203, hFG⟩ : ∃ F203 G203 : Nat → Prop, F203 = F202 ∧ G203 = G202 := ⟨_, _, rfl, rfl⟩
          rw [← hFG.1, ← hFG.2] at hD
          have D203 : Hid (Duo LD LG W w203 qd ⟨20000, Wq.Fs [] true (Fr.frames (ms ++ [[122]])) (Fr.frames ms).length, false, 2⟩ F203 qm ⟨1, (ms ++ [[122]]), 2, false⟩ G203) := hD
          clear hD hb hFG
          have hw2k : IntKind.wrap .i64 ((k : Int) + 2) = ((k + 2 : Nat) : Int) := by rw [IntKind.wrap_i64]; omega
          go_wp2
          go_ret
          exact ⟨rfl, D203.out.mine.below⟩
end Go.Proofs.Ytmbpkbdaakchiaa
