/- What WalBroken answers. -/
import Derived.Test.YtmbpkbdaakchiabLAwake8
namespace Go.Proofs.Ytmbpkbdaakchiab
open Go.RowKit

set_option maxRecDepth 20000 in
set_option maxHeartbeats 4000000 in
theorem broken_any8 {LD : Rep} {LG : RepG} (S7 : Specs7 LD) (S : Specs8 LD LG) (vl : Value) (ls : List (List UInt8)) (at0 : Int) (by0 : UInt8) (W : World) (hl : Bl W vl ls) (hll : ls.length ≤ maxLen) (hlx : ∀ x ∈ ls, x.length ≤ maxLen) :
    Calls Try.prog 3 #[vl, .int .i64 at0, .int .u8 (by0.toNat : Int)] W fun e w' => e = .returned (.bool true) ∧ Below W.heap.size W w' := by
  have H7 : Hid (Specs7 LD) := S7
  have HS : Hid (Specs8 LD LG) := S
  clear S7 S
  have kc := fun (w : World) (C : Array Value) (n c : Nat) => Lib.run_convert_bytes_const (P := Try.prog) w 31 5 C n c Try.underlying31 Try.underlying5
  have HL : Hid (Bl W vl ls ∧ ∀ x ∈ ls, x.length ≤ maxLen) := ⟨hl, hlx⟩
  obtain ⟨al, n, cl, rfl, hn, hX⟩ := hl
  have HN : Hid (n = ls.length) := hn
  have hn1 : n ≤ 9223372036854775807 := by unfold maxLen at hll; omega
  clear hX hn hll hlx
  go_enter Try.func3, Try.ntmps3
  go_wp2_with fail
  refine (awake_any8 H7.out HS.out W).mono ?_
  rintro e w0 ⟨rfl, hb⟩
  have B0 : Hid (Below W.heap.size W w0) := hb
  clear hb
  by_cases g0 : n < 1
  · have g02 : (n : Int) < 1 := by omega
    go_wp2
    go_ret
    exact ⟨rfl, B0.out⟩
  have g02 : ¬ (n : Int) < 1 := by omega
  by_cases g1 : 8 < n
  · have g12 : (8 : Int) < (n : Int) := by omega
    go_wp2
    go_ret
    exact ⟨rfl, B0.out⟩
  have g12 : ¬ (8 : Int) < (n : Int) := by omega
  by_cases g2 : by0 = 0
  · have g22 : ((by0.toNat : Int) == 0) = true := by rw [g2]; rfl
    go_wp2
    go_ret
    exact ⟨rfl, B0.out⟩
  have g22 : ((by0.toNat : Int) == 0) = false := by
    simp only [beq_eq_false_iff_ne]
    intro h
    apply g2
    apply UInt8.toNat_inj.1
    have : by0.toNat = 0 := by omega
    rw [this]
    rfl
  have HBY : Hid (by0 ≠ 0) := g2
  clear g2
  go_wp2_with fail
  refine (mine_new H7.out B0.out 20000 (by decide)).mono ?_
  rintro e w1 ⟨qd, F1, rfl, hM⟩
  have M1 : Hid (Mine LD W w1 qd ⟨20000, Wq.Fs [] false (Fr.frames []) 0, false, 1⟩ F1) := hM
  clear hM
  go_wp2_with fail
  refine (Mine.opn HS.out M1.out (roomy_fs (by decide) (by simp)) (Wq.opn_none (Or.inl ⟨rfl, rfl⟩))).mono ?_
  rintro e w2 ⟨ql, F2, G2, rfl, hD, hmv, hnw⟩
  have D2 : Hid (Duo LD LG W w2 qd ⟨20000, Wq.Fs [] false (Fr.frames []) 0, false, 1⟩ F2 ql ⟨1, [], 1, false⟩ G2) := hD
  clear hD hmv hnw
  have A0 : Hid (AddS LD LG W w2 qd ql 20000 0 [] 1 []) := ⟨_, _, false, D2.out, fun _ => ⟨rfl, rfl⟩⟩
  go_wp2
  go_loopw [11] (fun i wr => ∃ k : Nat, k ≤ n ∧ i = .int .i64 (k : Int) ∧ (∀ x ∈ ls.take k, x.length ≤ 200) ∧ AddS LD LG W wr qd ql 20000 0 [] 1 (ls.take k)) (fun i _ => ((n : Int) - intOf i).toNat)
  case atStart => exact ⟨0, Nat.zero_le _, rfl, fun x hx => (by cases hx), A0.out⟩
  case round =>
    obtain ⟨k, hk, rfl, hall, hrs⟩ := hrel
    have HR : Hid ((∀ x ∈ ls.take k, x.length ≤ 200) ∧ AddS LD LG W wr qd ql 20000 0 [] 1 (ls.take k)) := ⟨hall, hrs⟩
    clear hall hrs
    by_cases hlt : k < n
    · have hlt' : (k : Int) < (n : Int) := by omega
      have hkl : k < ls.length := by rw [← HN.out]; exact hlt
      obtain ⟨av, kv, cv, hv, hkv, hcs⟩ := HL.out.1
      obtain ⟨g, o, vx, hal, hcell, hbx⟩ := hcs k ls[k] (List.getElem?_eq_getElem hkl)
      simp only [Value.slice.injEq] at hv
      obtain ⟨rfl, hq2, rfl⟩ := hv
      subst hal
      have hxl := HL.out.2 _ (List.getElem_mem hkl)
      have hts : ls.take (k + 1) = ls.take k ++ [ls[k]] := List.take_succ_eq_append_getElem hkl
      have HGE : Hid (ls[k]? = some ls[k]) := List.getElem?_eq_getElem hkl
      generalize ls[k] = x at *
      have HTS : Hid (ls.take (k + 1) = ls.take k ++ [x]) := hts
      clear hcs hkv hkl hq2 hts
      have HBX : Hid (Bs W vx x) := hbx
      obtain ⟨ax, nx, cx, rfl, hnx, hY⟩ := hbx
      have HNX : Hid (nx = x.length) := hnx
      have hnx1 : nx ≤ 9223372036854775807 := by unfold maxLen at hxl; omega
      clear hY hnx hxl
      have hk0 : (0 : Int) ≤ (k : Int) := by omega
      have HCL : Hid (∀ w', Below W.heap.size W w' → w'.cell? ⟨g, o + k, none⟩ = some (.slice ax nx cx)) := fun w' hb => Below.kept hb hcell
      clear hcell
      have hc1 := HCL.out wr HR.out.2.below
      by_cases h300 : 200 < nx
      · have h300' : (200 : Int) < (nx : Int) := by omega
        go_wp2
        go_ret
        exact ⟨rfl, HR.out.2.below⟩
      have h300' : ¬ (200 : Int) < (nx : Int) := by omega
      have HFL : Hid ((Fr.frames (ls.take k)).length ≤ 6300 ∧ (ls.take k).length ≤ 100) := by
        have h1 := Fr.frames_max _ 200 HR.out.1
        have h2 : (ls.take k).length ≤ k := by rw [List.length_take]; omega
        have h3 : (ls.take k).length * (12 + 200) ≤ k * (12 + 200) := Nat.mul_le_mul_right _ h2
        exact ⟨by omega, by omega⟩
      go_wp2_with fail
      clear hc1
      refine (HR.out.2.add HS.out (Wq.BaseIs.low (n := 1) (Or.inl ⟨rfl, rfl⟩)) (by simp) (by decide) (by have := HFL.out.2; omega) _ x HBX.out (by rw [← HNX.out]; omega) (by have := HFL.out.1; have := HNX.out; simp only [Dq.size, List.map_nil, List.sum_nil]; omega)).mono ?_
      rintro e wB ⟨rfl, hA⟩
      have HRB : Hid ((∀ y ∈ ls.take (k + 1), y.length ≤ 200) ∧ AddS LD LG W wB qd ql 20000 0 [] 1 (ls.take (k + 1))) := by
        rw [HTS.out]
        refine ⟨fun y hy => ?_, hA⟩
        rcases List.mem_append.1 hy with h1 | h1
        · exact HR.out.1 y h1
        · simp only [List.mem_singleton] at h1
          rw [h1, ← HNX.out]
          omega
      clear hA
      go_wp2
      go_roundw
      case rel => exact ⟨k + 1, by omega, by go_num, HRB.out.1, HRB.out.2⟩
      case measure => simp [intOf]; omega
    · have hlt' : ¬ (k : Int) < (n : Int) := by omega
      obtain ⟨F100, G100, has, hD2, hhas⟩ := HR.out.2
      have hall := HR.out.1
      have hkn : ls.take k = ls := List.take_of_length_le (by rw [← HN.out]; omega)
      rw [hkn] at hD2 hhas hall
      have D100 : Hid (Duo LD LG W wr qd ⟨20000, Wq.Fs [] has (Fr.frames ls) 0, false, 1⟩ F100 ql ⟨1, ls, 1, false⟩ G100) := hD2
      have HHA : Hid ((has = false → ls = []) ∧ ∀ x ∈ ls, x.length ≤ 300) := ⟨fun e => (hhas e).1, fun x hx => Nat.le_trans (hall x hx) (by decide)⟩
      clear hD2 hhas hall hkn
      obtain rfl : has = true := by
        cases has with
        | true => rfl
        | false =>
          have h1 := HHA.out.1 rfl
          have h2 := HN.out
          rw [h1] at h2
          simp at h2
          omega
      obtain ⟨xs, hxs⟩ : ∃ xs, xs = Fr.frames ls := ⟨_, rfl⟩
      have HXS : Hid (xs = Fr.frames ls ∧ xs.length ≤ 6300) := by
        have h1 := Fr.frames_max ls 300 HHA.out.2
        have h2 := HN.out
        have h3 : ls.length * (12 + 300) ≤ 8 * (12 + 300) := Nat.mul_le_mul_right _ (by omega)
        exact ⟨hxs, by rw [hxs]; omega⟩
      have M100 : Hid (Mine LD W wr qd ⟨20000, Wq.Fs [] true xs 0, false, 1⟩ F100) := by rw [hxs]; exact D100.out.mine
      clear hxs
      go_wp2_with fail
      refine (Mine.read H7.out M100.out Wq.logN xs 0 (by rw [Wq.read_log (Wq.BaseIs.low (n := 1) (Or.inl ⟨rfl, rfl⟩))]; rfl)).mono ?_
      rintro e w101 ⟨F101, v101, rfl, hbs, hap, hM, hmv⟩
      have M101 : Hid (Mine LD W w101 qd ⟨20000, Wq.Fs [] true xs 0, false, 1⟩ F101) := hM
      have HB1 : Hid (Bs w101 v101 xs) := hbs
      obtain ⟨ab, nb, cb, rfl, hnb, _⟩ := hbs
      have HNB : Hid (nb = xs.length) := hnb
      have hnb1 : nb ≤ 6300 := by rw [hnb]; exact HXS.out.2
      clear hM hmv hap hnb
      by_cases a1 : at0 < 0
      · go_wp2
        go_ret
        exact ⟨rfl, M101.out.below⟩
      by_cases a2 : (nb : Int) ≤ at0
      · go_wp2
        go_ret
        exact ⟨rfl, M101.out.below⟩
      obtain ⟨i, rfl⟩ : ∃ z : Nat, at0 = (z : Int) := ⟨at0.toNat, by omega⟩
      have hi : i < nb := by omega
      go_wp2_with (at_builtin; refine append_copy rfl _ _ rfl (.slice ab nb cb) xs w101 rfl rfl HB1.out (by rw [← HNB.out]; omega) ?_)
      intro v102 w102 hown hbw
      rw [← HNB.out] at hown
      obtain ⟨g3, c3, rfl, hg3, hc3⟩ := hown.form (by omega)
      obtain ⟨x, hx⟩ : ∃ x, xs[i]? = some x := ⟨xs[i]'(by rw [← HNB.out]; exact hi), List.getElem?_eq_getElem _⟩
      have hcell : w102.cell? ⟨g3, i, none⟩ = some (.int .u8 (x.toNat : Int)) := (hown.cellAt i (by omega)).trans (by unfold bc; rw [List.getElem?_map, hx]; rfl)
      have hfz := hown.frozenAt i
      have hxor := xor8 x by0
      obtain ⟨y, hy⟩ : ∃ y, y = x ^^^ by0 := ⟨_, rfl⟩
      have HY : Hid (y = x ^^^ by0) := hy
      rw [← hy] at hxor
      clear hy
      have H102 : Hid (w102.ownsRow w101.heap.size 5 1 (.slice (some ⟨g3, 0, none⟩) nb c3) nb (bc xs) ∧ Below w101.heap.size w101 w102 ∧ w101.heap.size ≤ g3 ∧ xs[i]? = some x) := ⟨hown, hbw, hg3, hx⟩
      have H103 : Hid ((w102.setCell ⟨g3, i, none⟩ (.int .u8 (y.toNat : Int))).ownsRow w101.heap.size 5 1 (.slice (some ⟨g3, 0, none⟩) nb c3) nb (bc (xs.set i y)) ∧ Below w101.heap.size w101 (w102.setCell ⟨g3, i, none⟩ (.int .u8 (y.toNat : Int)))) := ⟨own_set y hown, Below.reader hbw (grownBy_setCell w102 ⟨g3, i, none⟩ _) (Nat.le_refl _) hg3⟩
      have hi' : (i : Int) < (nb : Int) := by omega
      have hi0 : (0 : Int) ≤ (i : Int) := by omega
      clear hown hbw hg3 hx hc3
      go_wp2_with fail
      clear hcell hfz hxor
      generalize w102.setCell ⟨g3, i, none⟩ (.int .u8 (y.toNat : Int)) = w103 at *
      have M103 : Hid (Mine LD W w103 qd ⟨20000, Wq.Fs [] true xs 0, false, 1⟩ F101 ∧ Bs w103 (.slice (some ⟨g3, 0, none⟩) nb c3) (xs.set i y) ∧ Apart F101 (.slice (some ⟨g3, 0, none⟩) nb c3) (xs.set i y)) := by
        refine ⟨M101.out.later H7.out H103.out.2, Bs.own H103.out.1, fun _ k hk hF => ?_⟩
        have h1 := H7.out.lt M101.out.ld hF
        have h2 := H102.out.2.2.1
        simp only [Value.ownBlock, Option.some.injEq] at hk
        omega
      refine (Mine.drop H7.out M103.out.1 Wq.logN _ _ (Wq.drop_log (Wq.BaseIs.low (n := 1) (Or.inl ⟨rfl, rfl⟩)))).mono ?_
      rintro e w104 ⟨F104, rfl, hM, hmv⟩
      have M104 : Hid (Mine LD W w104 qd ⟨20000, Wq.Fs [] false [] 0, false, 1⟩ F104) := hM
      have HB4 : Hid (Bs w104 (.slice (some ⟨g3, 0, none⟩) nb c3) (xs.set i y) ∧ Apart F104 (.slice (some ⟨g3, 0, none⟩) nb c3) (xs.set i y)) := M103.out.2.2.moved M103.out.2.1 hmv
      clear hM hmv
      obtain ⟨ys, hys⟩ : ∃ ys, ys = xs.set i y := ⟨_, rfl⟩
      have HYS : Hid (ys.length ≤ 6300 ∧ (Fr.scan ys).2.2 = 2) := by
        refine ⟨by rw [hys, List.length_set]; exact HXS.out.2, ?_⟩
        have h := H102.out.2.2.2
        rw [hys]
        rw [HXS.out.1] at h ⊢
        refine Fr.scan_set ls i x _ (fun r hr => Nat.le_trans (HHA.out.2 r hr) (by decide)) h (fun e => HBY.out ?_)
        rw [HY.out] at e
        have h2 := congrArg (x ^^^ ·) e
        simpa [← UInt8.xor_assoc] using h2
      rw [← hys] at HB4
      clear hys
      go_wp2_with fail
      refine (Mine.big HS.out M104.out Wq.logN _ ys HB4.out.1 (by have := HYS.out.1; omega) HB4.out.2 (by simp [Wq.Fs]) _ _ (Wq.append_log (Wq.BaseIs.low (n := 1) (Or.inl ⟨rfl, rfl⟩)) (fun _ => ⟨rfl, rfl⟩) ys (by have := HYS.out.1; simp [Dq.size]; omega))).mono ?_
      rintro e w105 ⟨F105, rfl, hM, hmv⟩
      have M105 : Hid (Mine LD W w105 qd ⟨20000, Wq.Fs [] true ys 0, false, 1⟩ F105) := hM
      clear hM hmv
      go_wp2_with fail
      refine (Mine.opnNo HS.out M105.out (roomy_fs (by decide) (by simp)) (Wq.opn_broken (Or.inl ⟨rfl, rfl⟩) HYS.out.2)).mono ?_
      rintro e w106 ⟨F106, rfl, hM, hmv⟩
      have BE : Hid (Below W.heap.size W w106) := hM.below
      clear hM hmv
      go_wp2
      go_ret
      exact ⟨rfl, BE.out⟩
end Go.Proofs.Ytmbpkbdaakchiab
