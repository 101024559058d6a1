/- What WalTails answers. -/
import Derived.Test.YtmbpkbdaakchiaaLAwake8
import Derived.Test.YtmbpkbdaakchiaaTakeAt
import Derived.Deep.DeepCutAuto
namespace Go.Proofs.Ytmbpkbdaakchiaa
open Go.RowKit

set_option maxRecDepth 20000 in
set_option maxHeartbeats 4000000 in
theorem tails_any8 {LD : Rep} {LG : RepG} (S7 : Specs7 LD) (S : Specs8 LD LG) (vl : Value) (ls : List (List UInt8)) (at0 : Int) (vr : Value) (r : List UInt8) (W : World) (hl : Bl W vl ls) (hll : ls.length ≤ maxLen) (hlx : ∀ x ∈ ls, x.length ≤ maxLen) (hr : Bs W vr r) (hlr : r.length ≤ maxLen) :
    Calls Try.prog 6 #[vl, .int .i64 at0, vr] W fun e w' => e = .returned (.bool true) ∧ Below W.heap.size W w' := by
  have H7 : Hid (Specs7 LD) := S7
  have HS : Hid (Specs8 LD LG) := S
  clear S7 S
  have kc := fun (w : World) (C : Array Value) (n c : Nat) => Lib.run_convert_bytes_const (P := Try.prog) w 31 5 C n c Try.underlying31 Try.underlying5
  have HL : Hid (Bl W vl ls ∧ ∀ x ∈ ls, x.length ≤ maxLen) := ⟨hl, hlx⟩
  obtain ⟨al, n, cl, rfl, hn, hX⟩ := hl
  have HN : Hid (n = ls.length) := hn
  have hn1 : n ≤ 9223372036854775807 := by unfold maxLen at hll; omega
  clear hX hn hll hlx
  have Hr0 : Hid (Bs W vr r) := hr
  obtain ⟨ar, nr, cr, rfl, hnr, hXr⟩ := hr
  have Hr : Hid (Bs W (.slice ar nr cr) r ∧ nr = r.length) := ⟨Hr0.out, hnr⟩
  have hnr1 : nr ≤ 9223372036854775807 := by unfold maxLen at hlr; omega
  clear hXr hnr hlr Hr0
  go_enter Try.func6, Try.ntmps6
  go_wp2_with fail
  refine (awake_any8 H7.out HS.out W).mono ?_
  rintro e w0 ⟨rfl, hb⟩
  have B0 : Hid (Below W.heap.size W w0) := hb
  clear hb
  by_cases g1 : 12 < n
  · have g12 : (12 : Int) < (n : Int) := by omega
    go_wp2
    go_ret
    exact ⟨rfl, B0.out⟩
  have g12 : ¬ (12 : Int) < (n : Int) := by omega
  by_cases g2 : at0 < 0
  · go_wp2
    go_ret
    exact ⟨rfl, B0.out⟩
  by_cases g3 : (n : Int) < at0
  · go_wp2
    go_ret
    exact ⟨rfl, B0.out⟩
  by_cases g4 : 200 < nr
  · have g42 : (200 : Int) < (nr : Int) := by omega
    go_wp2
    go_ret
    exact ⟨rfl, B0.out⟩
  have g42 : ¬ (200 : Int) < (nr : Int) := by omega
  obtain ⟨m, rfl⟩ : ∃ z : Nat, at0 = (z : Int) := ⟨at0.toNat, by omega⟩
  go_wp2_with fail
  refine (mine_new H7.out B0.out 20000 (by decide)).mono ?_
  rintro e w1 ⟨qd, F1, rfl, hM⟩
  have M1 : Hid (Mine LD W w1 qd ⟨20000, Wq.Fs [] false (Fr.frames []) 0, false, 1⟩ F1) := hM
  clear hM
  go_wp2_with fail
  refine (Mine.opn HS.out M1.out (roomy_fs (by decide) (by simp)) (Wq.opn_none (Or.inl ⟨rfl, rfl⟩))).mono ?_
  rintro e w2 ⟨ql, F2, G2, rfl, hD, hmv, hnw⟩
  have D2 : Hid (Duo LD LG W w2 qd ⟨20000, Wq.Fs [] false (Fr.frames []) 0, false, 1⟩ F2 ql ⟨1, [], 1, false⟩ G2) := hD
  clear hD hmv hnw
  have A0 : Hid (AddS LD LG W w2 qd ql 20000 0 [] 1 []) := ⟨_, _, false, D2.out, fun _ => ⟨rfl, rfl⟩⟩
  go_wp2
  go_loopw [11] (fun i wr => ∃ k : Nat, k ≤ n ∧ i = .int .i64 (k : Int) ∧ (∀ x ∈ ls.take k, x.length ≤ 200) ∧ AddS LD LG W wr qd ql 20000 0 [] 1 (ls.take k)) (fun i _ => ((n : Int) - intOf i).toNat)
  case atStart => exact ⟨0, Nat.zero_le _, rfl, fun x hx => (by cases hx), A0.out⟩
  case round =>
    obtain ⟨k, hk, rfl, hall, hrs⟩ := hrel
    have HR : Hid ((∀ x ∈ ls.take k, x.length ≤ 200) ∧ AddS LD LG W wr qd ql 20000 0 [] 1 (ls.take k)) := ⟨hall, hrs⟩
    clear hall hrs
    by_cases hlt : k < n
    · have hlt' : (k : Int) < (n : Int) := by omega
      have hkl : k < ls.length := by rw [← HN.out]; exact hlt
      obtain ⟨av, kv, cv, hv, hkv, hcs⟩ := HL.out.1
      obtain ⟨g, o, vx, hal, hcell, hbx⟩ := hcs k ls[k] (List.getElem?_eq_getElem hkl)
      simp only [Value.slice.injEq] at hv
      obtain ⟨rfl, hq2, rfl⟩ := hv
      subst hal
      have hxl := HL.out.2 _ (List.getElem_mem hkl)
      have hts : ls.take (k + 1) = ls.take k ++ [ls[k]] := List.take_succ_eq_append_getElem hkl
      have HGE : Hid (ls[k]? = some ls[k]) := List.getElem?_eq_getElem hkl
      generalize ls[k] = x at *
      have HTS : Hid (ls.take (k + 1) = ls.take k ++ [x]) := hts
      clear hcs hkv hkl hq2 hts
      have HBX : Hid (Bs W vx x) := hbx
      obtain ⟨ax, nx, cx, rfl, hnx, hY⟩ := hbx
      have HNX : Hid (nx = x.length) := hnx
      have hnx1 : nx ≤ 9223372036854775807 := by unfold maxLen at hxl; omega
      clear hY hnx hxl
      have hk0 : (0 : Int) ≤ (k : Int) := by omega
      have HCL : Hid (∀ w', Below W.heap.size W w' → w'.cell? ⟨g, o + k, none⟩ = some (.slice ax nx cx)) := fun w' hb => Below.kept hb hcell
      clear hcell
      have hc1 := HCL.out wr HR.out.2.below
      by_cases h300 : 200 < nx
      · have h300' : (200 : Int) < (nx : Int) := by omega
        go_wp2
        go_ret
        exact ⟨rfl, HR.out.2.below⟩
      have h300' : ¬ (200 : Int) < (nx : Int) := by omega
      have HFL : Hid ((Fr.frames (ls.take k)).length ≤ 6300 ∧ (ls.take k).length ≤ 100) := by
        have h1 := Fr.frames_max _ 200 HR.out.1
        have h2 : (ls.take k).length ≤ k := by rw [List.length_take]; omega
        have h3 : (ls.take k).length * (12 + 200) ≤ k * (12 + 200) := Nat.mul_le_mul_right _ h2
        exact ⟨by omega, by omega⟩
      go_wp2_with fail
      clear hc1
      refine (HR.out.2.add HS.out (Wq.BaseIs.low (n := 1) (Or.inl ⟨rfl, rfl⟩)) (by simp) (by decide) (by have := HFL.out.2; omega) _ x HBX.out (by rw [← HNX.out]; omega) (by have := HFL.out.1; have := HNX.out; simp only [Dq.size, List.map_nil, List.sum_nil]; omega)).mono ?_
      rintro e wB ⟨rfl, hA⟩
      have HRB : Hid ((∀ y ∈ ls.take (k + 1), y.length ≤ 200) ∧ AddS LD LG W wB qd ql 20000 0 [] 1 (ls.take (k + 1))) := by
        rw [HTS.out]
        refine ⟨fun y hy => ?_, hA⟩
        rcases List.mem_append.1 hy with h1 | h1
        · exact HR.out.1 y h1
        · simp only [List.mem_singleton] at h1
          rw [h1, ← HNX.out]
          omega
      clear hA
      go_wp2
      go_roundw
      case rel => exact ⟨k + 1, by omega, by go_num, HRB.out.1, HRB.out.2⟩
      case measure => simp [intOf]; omega
    · have hlt' : ¬ (k : Int) < (n : Int) := by omega
      obtain ⟨F100, G100, has, hD2, hhas⟩ := HR.out.2
      have hall := HR.out.1
      have hkn : ls.take k = ls := List.take_of_length_le (by rw [← HN.out]; omega)
      rw [hkn] at hD2 hhas hall
      have D100 : Hid (Duo LD LG W wr qd ⟨20000, Wq.Fs [] has (Fr.frames ls) 0, false, 1⟩ F100 ql ⟨1, ls, 1, false⟩ G100) := hD2
      have HHA : Hid ((has = false → ls = []) ∧ ∀ x ∈ ls, x.length ≤ 300) := ⟨fun e => (hhas e).1, fun x hx => Nat.le_trans (hall x hx) (by decide)⟩
      clear hD2 hhas hall hkn
      obtain ⟨ms, hms⟩ : ∃ ms, ms = ls.take m := ⟨_, rfl⟩
      have hml : m ≤ ls.length := by rw [← HN.out]; omega
      have HMS : Hid (ms = ls.take m ∧ ms.length = m ∧ (Fr.frames ms).length ≤ 6300 ∧ (has = false → ms = []) ∧ ∀ x ∈ ms, x.length ≤ 300) := by
        have h2 : ms.length = m := by rw [hms, List.length_take]; omega
        have h4 : ∀ x ∈ ms, x.length ≤ 300 := fun x hx => HHA.out.2 x (by rw [hms] at hx; exact List.mem_of_mem_take hx)
        have h1 := Fr.frames_max ms 300 h4
        have h3 : ms.length * (12 + 300) ≤ 20 * (12 + 300) := Nat.mul_le_mul_right _ (by omega)
        exact ⟨hms, h2, by omega, fun e => by rw [hms, HHA.out.1 e]; simp, h4⟩
      have HCT : Hid (Wq.cutTo ⟨1, ls, 1, false⟩ ⟨20000, Wq.Fs [] has (Fr.frames ls) 0, false, 1⟩ ((m + 1 : Nat) : Int) = (0, ⟨1, ms, 1, false⟩, ⟨20000, Wq.Fs [] has (Fr.frames ms) 0, false, 1⟩)) := by
        have h := Wq.cutTo_fs (R := 20000) (lv := 1) (k := 0) (n := 1) (Wq.BaseIs.low (n := 1) (Or.inl ⟨rfl, rfl⟩)) HHA.out.1 m hml (z := ((m + 1 : Nat) : Int)) (by omega) (Or.inr rfl)
        rw [← hms] at h
        exact h
      have hwm : IntKind.wrap .i64 ((m : Int) + 1) = ((m + 1 : Nat) : Int) := by rw [IntKind.wrap_i64]; omega
      clear hms hml
      go_wp2_with fail
      refine (Duo.cutTo HS.out D100.out (roomy_fs (by decide) (by simp)) ((m + 1 : Nat) : Int) (by omega) (by omega) _ _ _ HCT.out (by simp [Wq.off])).mono ?_
      rintro e w101 ⟨F101, G101, rfl, hD, hmv⟩
      have D101 : Hid (Duo LD LG W w101 qd ⟨20000, Wq.Fs [] has (Fr.frames ms) 0, false, 1⟩ F101 ql ⟨1, ms, 1, false⟩ G101) := hD
      clear hD hmv
      have HN1 : Hid (Wq.next ⟨1, ms, 1, false⟩ = ((m + 1 : Nat) : Int)) := by
        have h : Wq.next ⟨1, ms, 1, false⟩ = ((m + 1 : Nat) : Int) := by
          simp only [Wq.next, HMS.out.2.1]
          omega
        exact h
      go_wp2_with fail
      refine (Duo.next H7.out HS.out D101.out ((m + 1 : Nat) : Int) HN1.out).mono ?_
      rintro e w102 ⟨rfl, hD, hb⟩
      obtain ⟨F102, G102, hFG⟩ : ∃ F102 G102 : Nat → Prop, F102 = F101 ∧ G102 = G101 := ⟨_, _, rfl, rfl⟩
      rw [← hFG.1, ← hFG.2] at hD
      have D102 : Hid (Duo LD LG W w102 qd ⟨20000, Wq.Fs [] has (Fr.frames ms) 0, false, 1⟩ F102 ql ⟨1, ms, 1, false⟩ G102) := hD
      clear hD hb hFG
      go_wp2_with fail
      refine (Duo.add HS.out D102.out (roomy_fs (by decide) (by simp)) (by simp only []; have := HMS.out.2.1; omega) _ r (D102.out.arg Hr.out.1).1 (by rw [← Hr.out.2]; omega) (D102.out.arg Hr.out.1).2.1 (D102.out.arg Hr.out.1).2.2 _ _ _ (Wq.add_fs (Wq.BaseIs.low (n := 1) (Or.inl ⟨rfl, rfl⟩)) (fun e => ⟨by rw [HMS.out.2.2.2.1 e]; rfl, rfl⟩) (by rw [← Hr.out.2]; omega) (by have h1 := HMS.out.2.2.1; have h2 := Hr.out.2; simp only [Dq.size, List.map_nil, List.sum_nil]; omega)) (by simp [Wq.off])).mono ?_
      rintro e w103 ⟨F103, G103, rfl, hD, hmv⟩
      have D103 : Hid (Duo LD LG W w103 qd ⟨20000, Wq.Fs [] true (Fr.frames (ms ++ [r])) 0, false, 1⟩ F103 ql ⟨1, (ms ++ [r]), 1, false⟩ G103) := hD
      clear hD hmv
      go_wp2_with fail
      refine (Duo.sync HS.out D103.out (roomy_fs (by decide) (by simp))  _ _ _ (Wq.sync_fs (Wq.BaseIs.low (n := 1) (Or.inl ⟨rfl, rfl⟩))) (by simp [Wq.off])).mono ?_
      rintro e w104 ⟨F104, G104, rfl, hD, hmv⟩
      have D104 : Hid (Duo LD LG W w104 qd ⟨20000, Wq.Fs [] true (Fr.frames (ms ++ [r])) (Fr.frames (ms ++ [r])).length, false, 1⟩ F104 ql ⟨1, (ms ++ [r]), 1, false⟩ G104) := hD
      clear hD hmv
      go_wp2_with fail
      refine (Duo.crash H7.out HS.out D104.out 0 (by decide) (by decide) _ (Wq.crash_synced (Wq.BaseIs.safe (n := 1) (Or.inl ⟨rfl, rfl⟩)) _ _)).mono ?_
      rintro e w105 ⟨F105, rfl, hD, hmv⟩
      obtain ⟨G105, hFG⟩ : ∃ z : Nat → Prop, z = G104 := ⟨_, rfl⟩
      rw [← hFG] at hD
      have D105 : Hid (Duo LD LG W w105 qd ⟨20000, Wq.Fs [] true (Fr.frames (ms ++ [r])) (Fr.frames (ms ++ [r])).length, true, 1⟩ F105 ql ⟨1, (ms ++ [r]), 1, false⟩ G105) := hD
      clear hD hmv hFG
      go_wp2_with fail
      refine (Duo.on H7.out HS.out D105.out (by simp) _ rfl).mono ?_
      rintro e w106 ⟨F106, rfl, hD, hmv⟩
      obtain ⟨G106, hFG⟩ : ∃ z : Nat → Prop, z = G105 := ⟨_, rfl⟩
      rw [← hFG] at hD
      have D106 : Hid (Duo LD LG W w106 qd ⟨20000, Wq.Fs [] true (Fr.frames (ms ++ [r])) (Fr.frames (ms ++ [r])).length, false, 2⟩ F106 ql ⟨1, (ms ++ [r]), 1, false⟩ G106) := hD
      clear hD hmv hFG
      have HRL : Hid (∀ y ∈ ms ++ [r], y.length ≤ 20000) := by
        intro y hy
        rcases List.mem_append.1 hy with h1 | h1
        · exact Nat.le_trans (HMS.out.2.2.2.2 y h1) (by decide)
        · simp only [List.mem_singleton] at h1
          rw [h1, ← Hr.out.2]
          omega
      go_wp2_with fail
      refine (Mine.opn HS.out D106.out.mine (roomy_fs (by decide) (by simp)) (Wq.opn_whole (Or.inl ⟨rfl, rfl⟩) HRL.out)).mono ?_
      rintro e w107 ⟨qm, F107, G107, rfl, hD, hmv, hnw⟩
      have D107 : Hid (Duo LD LG W w107 qd ⟨20000, Wq.Fs [] true (Fr.frames (ms ++ [r])) (Fr.frames (ms ++ [r])).length, false, 2⟩ F107 qm ⟨1, (ms ++ [r]), 2, false⟩ G107) := hD
      clear hD hmv hnw
      have HN2 : Hid (Wq.next ⟨1, (ms ++ [r]), 2, false⟩ = ((m + 2 : Nat) : Int)) := by
        have h : Wq.next ⟨1, (ms ++ [r]), 2, false⟩ = ((m + 2 : Nat) : Int) := by
          simp only [Wq.next, List.length_append, HMS.out.2.1, List.length_singleton]
          omega
        exact h
      have hwm2 : IntKind.wrap .i64 ((m : Int) + 2) = ((m + 2 : Nat) : Int) := by rw [IntKind.wrap_i64]; omega
      go_wp2_with fail
      refine (Duo.next H7.out HS.out D107.out ((m + 2 : Nat) : Int) HN2.out).mono ?_
      rintro e w108 ⟨rfl, hD, hb⟩
      obtain ⟨F108, G108, hFG⟩ : ∃ F108 G108 : Nat → Prop, F108 = F107 ∧ G108 = G107 := ⟨_, _, rfl, rfl⟩
      rw [← hFG.1, ← hFG.2] at hD
      have D108 : Hid (Duo LD LG W w108 qd ⟨20000, Wq.Fs [] true (Fr.frames (ms ++ [r])) (Fr.frames (ms ++ [r])).length, false, 2⟩ F108 qm ⟨1, (ms ++ [r]), 2, false⟩ G108) := hD
      clear hD hb hFG
      have E0 : Hid (∃ F G, Duo LD LG W w108 qd ⟨20000, Wq.Fs [] true (Fr.frames (ms ++ [r])) (Fr.frames (ms ++ [r])).length, false, 2⟩ F qm ⟨1, (ms ++ [r]), 2, false⟩ G) := ⟨_, _, D108.out⟩
      go_wp2
      go_loopw [14] (fun i wr => ∃ k : Nat, k ≤ m ∧ i = .int .i64 (k : Int) ∧ ∃ F G, Duo LD LG W wr qd ⟨20000, Wq.Fs [] true (Fr.frames (ms ++ [r])) (Fr.frames (ms ++ [r])).length, false, 2⟩ F qm ⟨1, (ms ++ [r]), 2, false⟩ G) (fun i _ => ((m : Int) - intOf i).toNat)
      case atStart => exact ⟨0, Nat.zero_le _, rfl, E0.out⟩
      case round =>
        obtain ⟨k, hk, rfl, F200, G200, hD⟩ := hrel
        have D200 : Hid (Duo LD LG W wr qd ⟨20000, Wq.Fs [] true (Fr.frames (ms ++ [r])) (Fr.frames (ms ++ [r])).length, false, 2⟩ F200 qm ⟨1, (ms ++ [r]), 2, false⟩ G200) := hD
        clear hD
        by_cases hlw : k < m
        · have hlt' : (k : Int) < (m : Int) := by omega
          have hltn : (k : Int) < (n : Int) := by omega
          have hlt : k < n := by omega
          have hkl : k < ls.length := by rw [← HN.out]; exact hlt
          obtain ⟨av, kv, cv, hv, hkv, hcs⟩ := HL.out.1
          obtain ⟨g, o, vx, hal, hcell, hbx⟩ := hcs k ls[k] (List.getElem?_eq_getElem hkl)
          simp only [Value.slice.injEq] at hv
          obtain ⟨rfl, hq2, rfl⟩ := hv
          subst hal
          have hxl := HL.out.2 _ (List.getElem_mem hkl)
          have hts : ls.take (k + 1) = ls.take k ++ [ls[k]] := List.take_succ_eq_append_getElem hkl
          have HGE : Hid (ls[k]? = some ls[k]) := List.getElem?_eq_getElem hkl
          generalize ls[k] = x at *
          have HTS : Hid (ls.take (k + 1) = ls.take k ++ [x]) := hts
          clear hcs hkv hkl hq2 hts
          have HBX : Hid (Bs W vx x) := hbx
          obtain ⟨ax, nx, cx, rfl, hnx, hY⟩ := hbx
          have HNX : Hid (nx = x.length) := hnx
          have hnx1 : nx ≤ 9223372036854775807 := by unfold maxLen at hxl; omega
          clear hY hnx hxl
          have hk0 : (0 : Int) ≤ (k : Int) := by omega
          have HCL : Hid (∀ w', Below W.heap.size W w' → w'.cell? ⟨g, o + k, none⟩ = some (.slice ax nx cx)) := fun w' hb => Below.kept hb hcell
          clear hcell
          have hwk : IntKind.wrap .i64 ((k : Int) + 1) = ((k + 1 : Nat) : Int) := by rw [IntKind.wrap_i64]; omega
          have HAT : Hid (Wq.at_ ⟨1, (ms ++ [r]), 2, false⟩ ⟨20000, Wq.Fs [] true (Fr.frames (ms ++ [r])) (Fr.frames (ms ++ [r])).length, false, 2⟩ ((k + 1 : Nat) : Int) = (x, 0, ⟨1, (ms ++ [r]), 2, false⟩)) := Wq.at_fs k (by omega) (by rw [List.getElem?_append_left (by rw [HMS.out.2.1]; exact hlw), HMS.out.1, List.getElem?_take, if_pos hlw]; exact HGE.out)
          go_wp2_with fail
          refine (Duo.at_ HS.out D200.out (roomy_fs (by decide) (by simp)) ((k + 1 : Nat) : Int) (by omega) (by omega) x 0 HAT.out (by simp [Wq.off])).mono ?_
          rintro e w201 ⟨F201, G201, v201, rfl, hbs, hap, hD, hmv⟩
          have D201 : Hid (Duo LD LG W w201 qd ⟨20000, Wq.Fs [] true (Fr.frames (ms ++ [r])) (Fr.frames (ms ++ [r])).length, false, 2⟩ F201 qm ⟨1, (ms ++ [r]), 2, false⟩ G201) := hD
          have XB201 : Hid (Bs w201 v201 x ∧ Apart (both F201 G201) v201 x) := ⟨hbs, hap⟩
          clear hD hmv hbs hap
          have HWB : Hid (Below W.heap.size W w201) := D201.out.mine.below
          obtain ⟨X, hX⟩ : ∃ X : ByteArray, X = ⟨x.toArray⟩ := ⟨_, rfl⟩
          have HSB : Hid (∀ u, Below w201.heap.size w201 u → (convert 31 9 v201).run Try.prog u = .ok (.string X) u ∧ (convert 31 9 (.slice ax nx cx)).run Try.prog u = .ok (.string X) u ∧ u.cell? ⟨g, o + k, none⟩ = some (.slice ax nx cx)) := fun u hb => by
            rw [hX]
            exact ⟨(XB201.out.1.below hb).conv, ((HBX.out.below HWB.out).below hb).conv, Below.kept hb (HCL.out _ HWB.out)⟩
          clear hX
          go_wp2_with fail
          refine wp_region_held_drew (S := fun u => (convert 31 9 v201).run Try.prog u = .ok (.string X) u ∧ (convert 31 9 (.slice ax nx cx)).run Try.prog u = .ok (.string X) u ∧ u.cell? ⟨g, o + k, none⟩ = some (.slice ax nx cx)) (by kernel_rfl) (HSB.out _ (Below.refl _ _).drew) (fun _ => ?_)
          have HSX : Hid ((convert 31 9 v201).run Try.prog w201.drew = .ok (.string X) w201.drew ∧ (convert 31 9 (.slice ax nx cx)).run Try.prog w201.drew = .ok (.string X) w201.drew ∧ w201.drew.cell? ⟨g, o + k, none⟩ = some (.slice ax nx cx)) := HSB.out _ (Below.refl _ _).drew
          have HDX : Hid (∃ F G, Duo LD LG W w201.drew qd ⟨20000, Wq.Fs [] true (Fr.frames (ms ++ [r])) (Fr.frames (ms ++ [r])).length, false, 2⟩ F qm ⟨1, (ms ++ [r]), 2, false⟩ G) := ⟨_, _, D201.out.later H7.out HS.out (Below.refl _ _).drew⟩
          generalize w201.drew = wX at *
          refine' take_at (i := 0) (d := 119) (v := _) rfl rfl (by kernel_rfl) (by kernel_rfl) (by kernel_rfl) (fun _ _ _ h => h) (Or.inl ⟨by rfl, ?h0⟩) HSX.out ?_
          case h0 => intro w hSw; go_simp; with_reducible rfl
          simp only [List.setIfInBounds_toArray, List.set_cons_zero, List.set_cons_succ]
          refine' take_at (i := 1) (d := 120) (v := _) rfl rfl (by kernel_rfl) (by kernel_rfl) (by kernel_rfl) (fun _ _ _ h => h) (Or.inl ⟨by rfl, ?h1⟩) HSX.out ?_
          case h1 => intro w hSw; go_simp; with_reducible rfl
          simp only [List.setIfInBounds_toArray, List.set_cons_zero, List.set_cons_succ]
          refine' take_at (i := 2) (d := 121) (v := _) rfl rfl (by kernel_rfl) (by kernel_rfl) (by kernel_rfl) (fun _ _ _ h => h) (Or.inl ⟨by rfl, ?h2⟩) HSX.out ?_
          case h2 => intro w hSw; go_simp; with_reducible rfl
          simp only [List.setIfInBounds_toArray, List.set_cons_zero, List.set_cons_succ]
          refine' take_at (i := 3) (d := 122) (v := _) rfl rfl (by kernel_rfl) (by kernel_rfl) (by kernel_rfl) (fun _ _ _ h => h) (Or.inl ⟨by rfl, ?h3⟩) HSX.out ?_
          case h3 => intro w hSw; go_simp; with_reducible rfl
          simp only [List.setIfInBounds_toArray, List.set_cons_zero, List.set_cons_succ]
          refine' take_at (i := 4) (d := 123) (v := _) rfl rfl (by kernel_rfl) (by kernel_rfl) (by kernel_rfl) (fun _ _ _ h => h) (Or.inl ⟨by rfl, ?h4⟩) HSX.out ?_
          case h4 => intro w hSw; obtain ⟨s1, s2, s3⟩ := hSw; go_simp; with_reducible rfl
          simp only [List.setIfInBounds_toArray, List.set_cons_zero, List.set_cons_succ]
          refine' take_at (i := 5) (d := 124) (v := _) rfl rfl (by kernel_rfl) (by kernel_rfl) (by kernel_rfl) (fun _ _ _ h => h) (Or.inl ⟨by rfl, ?h5⟩) HSX.out ?_
          case h5 => intro w hSw; go_simp; with_reducible rfl
          simp only [List.setIfInBounds_toArray, List.set_cons_zero, List.set_cons_succ]
          refine' take_at (i := 6) (d := 125) (v := _) rfl rfl (by kernel_rfl) (by kernel_rfl) (by kernel_rfl) (fun _ _ _ h => h) (Or.inl ⟨by rfl, ?h6⟩) HSX.out ?_
          case h6 => intro w hSw; go_simp; with_reducible rfl
          simp only [List.setIfInBounds_toArray, List.set_cons_zero, List.set_cons_succ]
          refine' take_at (i := 7) (d := 126) (v := _) rfl rfl (by kernel_rfl) (by kernel_rfl) (by kernel_rfl) (fun _ _ _ h => h) (Or.inl ⟨by rfl, ?h7⟩) HSX.out ?_
          case h7 => intro w hSw; go_simp; with_reducible rfl
          simp only [List.setIfInBounds_toArray, List.set_cons_zero, List.set_cons_succ]
          refine' take_at (i := 8) (d := 127) (v := _) rfl rfl (by kernel_rfl) (by kernel_rfl) (by kernel_rfl) (fun _ _ _ h => h) (Or.inl ⟨by rfl, ?h8⟩) HSX.out ?_
          case h8 => intro w hSw; obtain ⟨s1, s2, s3⟩ := hSw; go_simp; with_reducible rfl
          simp only [List.setIfInBounds_toArray, List.set_cons_zero, List.set_cons_succ]
          refine' take_at (i := 9) (d := 128) (v := _) rfl rfl (by kernel_rfl) (by kernel_rfl) (by kernel_rfl) (fun _ _ _ h => h) (Or.inl ⟨by rfl, ?h9⟩) HSX.out ?_
          case h9 => intro w hSw; obtain ⟨s1, s2, s3⟩ := hSw; go_simp; with_reducible rfl
          simp only [List.setIfInBounds_toArray, List.set_cons_zero, List.set_cons_succ]
          refine' take_at (i := 10) (d := 129) (v := _) rfl rfl (by kernel_rfl) (by kernel_rfl) (by kernel_rfl) (fun _ _ _ h => h) (Or.inl ⟨by rfl, ?h10⟩) HSX.out ?_
          case h10 => intro w hSw; go_simp; with_reducible rfl
          simp only [List.setIfInBounds_toArray, List.set_cons_zero, List.set_cons_succ]
          refine' take_at (i := 11) (d := 130) (v := _) rfl rfl (by kernel_rfl) (by kernel_rfl) (by kernel_rfl) (fun _ _ _ h => h) (Or.inl ⟨by rfl, ?h11⟩) HSX.out ?_
          case h11 => intro w hSw; go_simp; with_reducible rfl
          simp only [List.setIfInBounds_toArray, List.set_cons_zero, List.set_cons_succ]
          refine wpAnyH_done (by kernel_rfl) ?_ _
          go_wp2
          go_roundw
          case rel => exact ⟨k + 1, by omega, by go_num, HDX.out⟩
          case measure => simp [intOf]; omega
        · have hlw' : ¬ (k : Int) < (m : Int) := by omega
          obtain ⟨w200, rfl⟩ : ∃ u, u = wr := ⟨_, rfl⟩
          go_wp2_with fail
          refine (Duo.at_ HS.out D200.out (roomy_fs (by decide) (by simp)) ((m + 1 : Nat) : Int) (by omega) (by omega) r 0 (Wq.at_fs m (by omega) (by rw [List.getElem?_append_right (by rw [HMS.out.2.1]; exact Nat.le_refl _), HMS.out.2.1, Nat.sub_self]; rfl)) (by simp [Wq.off])).mono ?_
          rintro e w201 ⟨F201, G201, v201, rfl, hbs, hap, hD, hmv⟩
          have D201 : Hid (Duo LD LG W w201 qd ⟨20000, Wq.Fs [] true (Fr.frames (ms ++ [r])) (Fr.frames (ms ++ [r])).length, false, 2⟩ F201 qm ⟨1, (ms ++ [r]), 2, false⟩ G201) := hD
          have XR201 : Hid (Bs w201 v201 r ∧ Apart (both F201 G201) v201 r) := ⟨hbs, hap⟩
          clear hD hmv hbs hap
          have hcv : (convert 31 9 v201).run Try.prog w201 = .ok (.string ⟨r.toArray⟩) w201 := XR201.out.1.conv
          have hcr : (convert 31 9 (.slice ar nr cr)).run Try.prog w201 = .ok (.string ⟨r.toArray⟩) w201 := (D201.out.arg Hr.out.1).1.conv
          go_wp2
          go_ret
          exact ⟨rfl, D201.out.mine.below⟩
end Go.Proofs.Ytmbpkbdaakchiaa
