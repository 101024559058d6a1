/- RouteBack's walk. -/
import Derived.Test.YtpjdjobdbandhaaDoorLAwake16
import Derived.Test.YtpjdjobdbandhaaDoorActs16
import Derived.Test.YtpjdjobdbandhaaDoorBo16
namespace Go.Proofs.YtpjdjobdbandhaaDoor
open Go.RowKit

set_option maxRecDepth 100000 in
set_option maxHeartbeats 8000000 in
theorem back_any16 {LS : Rep16} (S : Specs16 LS) (n : Int) (v u : Value) (xs ys : List Tb.Ac) (p : ByteArray) (W : World) (hS : Pa.Std W) (hv : Acl16 W v xs) (hu : Acl16 W u ys) (hl : xs.length ≤ maxLen) (hl2 : ys.length ≤ maxLen) (hok : ∀ x ∈ xs, AcOk16 x) (hok2 : ∀ x ∈ ys, AcOk16 x) (hp : p.size ≤ maxLen) :
    Calls Tryd.prog 8 #[.int .i64 n, v, u, .string p] W fun e w' => e = .returned (.bool true) ∧ Below W.heap.size W w' := by
  have HS : Hid (Specs16 LS ∧ Pa.Std W ∧ (∀ x ∈ xs, AcOk16 x) ∧ (∀ x ∈ ys, AcOk16 x)) := ⟨S, hS, hok, hok2⟩
  obtain ⟨av, N, c, rfl, hN, hj⟩ := hv
  have HV : Hid (Acl16 W (.slice av N c) xs ∧ N = xs.length) := ⟨⟨av, N, c, rfl, hN, hj⟩, hN⟩
  obtain ⟨au, M, cu, rfl, hM, hk⟩ := hu
  have HU : Hid (Acl16 W (.slice au M cu) ys ∧ M = ys.length) := ⟨⟨au, M, cu, rfl, hM, hk⟩, hM⟩
  have hN63 : N ≤ 9223372036854775807 := by unfold maxLen at hl; omega
  have hM63 : M ≤ 9223372036854775807 := by unfold maxLen at hl2; omega
  have HT : Hid (p.size ≤ maxLen) := hp
  unfold maxLen at hp
  clear S hS hok hok2 hl hl2 hN hj hM hk
  go_enter Tryd.func8, Tryd.ntmps8
  go_wp2_with fail
  refine (awake_any16 HS.out.1 W HS.out.2.1).mono ?_
  rintro e w0 ⟨rfl, hb0⟩
  have H0 : Hid (Below W.heap.size W w0) := hb0
  clear hb0
  by_cases a1 : n < 1
  · go_wp2
    go_ret
    exact ⟨rfl, H0.out⟩
  by_cases a2 : 4 < n
  · go_wp2
    go_ret
    exact ⟨rfl, H0.out⟩
  by_cases a3 : (20 : Int) < (N : Int)
  · go_wp2
    go_ret
    exact ⟨rfl, H0.out⟩
  by_cases a4 : (20 : Int) < (M : Int)
  · go_wp2
    go_ret
    exact ⟨rfl, H0.out⟩
  by_cases a5 : (300 : Int) < (p.size : Int)
  · go_wp2
    go_ret
    exact ⟨rfl, H0.out⟩
  have HA : Hid (1 ≤ n ∧ n ≤ 4 ∧ N ≤ 20 ∧ M ≤ 20 ∧ p.size ≤ 300) := ⟨by omega, by omega, by omega, by omega, by omega⟩
  go_wp2_with fail
  refine (mine16_new HS.out.1 H0.out n ⟨HA.out.1, HA.out.2.1⟩).mono ?_
  rintro e w1 ⟨q, F1, rfl, hM, hF, hb⟩
  have M1 : Hid (Mine16 LS W w1 q 1 (Tb.new n) F1) := hM
  clear hM hF hb H0 a1 a2 a3 a4 a5
  go_wp2
  go_loopw [11] (fun i wx => ∃ (k : Nat) (s : Tb.St) (F : Nat → Prop), k ≤ N ∧ i = .int .i64 (k : Int) ∧ Mine16 LS W wx q ((k : Int) + 1) s F) (fun i _ => N - (intOf i).toNat)
  case atStart => exact ⟨0, _, F1, Nat.zero_le _, rfl, M1.out⟩
  case round =>
    obtain ⟨k, s, F, hk, rfl, hM⟩ := hrel
    have H3 : Hid (Mine16 LS W wr q ((k : Int) + 1) s F) := hM
    clear hM M1
    by_cases hlt : k < N
    · have hlt' : (k : Int) < (N : Int) := by omega
      have hk0 : (0 : Int) ≤ (k : Int) := by omega
      have hwk : IntKind.wrap .i64 ((k : Int) + 1) = (k : Int) + 1 := by rw [IntKind.wrap_i64]; omega
      obtain ⟨x, hx⟩ : ∃ x, xs[k]? = some x := ⟨xs[k]'(by rw [← HV.out.2]; exact hlt), List.getElem?_eq_getElem _⟩
      have HX : Hid (xs[k]? = some x ∧ x.top.size ≤ maxLen) := ⟨hx, (HS.out.2.2.1 x (List.mem_of_getElem? hx)).top⟩
      obtain ⟨g, o, rfl, c0, c1⟩ := (HV.out.1.below H3.out.below).at hx
      have hxt : x.top.size ≤ 9223372036854775807 := HX.out.2
      clear hx
      by_cases ax : (100 : Int) < (x.top.size : Int)
      · go_wp2
        go_ret
        exact ⟨rfl, H3.out.below⟩
      have hkm : (k : Int) + 1 ≤ 2199023255552 := by have := HA.out.2.2.1; omega
      go_upto_region 11 with fail
      clear ax
      obtain ⟨za, s6, hz⟩ : ∃ za s6, Tb.move s x.top x.shard = (za, s6) := ⟨_, _, rfl⟩
      have HMV : Hid (Tb.move s x.top x.shard = (za, s6)) := hz
      refine wp_region_held_drew (S := fun w' => w'.cell? ⟨g, o + k * 2, none⟩ = some (.string x.top) ∧ w'.cell? ⟨g, o + k * 2 + 1, none⟩ = some (.int .i64 x.shard)) (by kernel_rfl) ⟨c0, c1⟩ (fun _ => ?_)
      have H4 : Hid (Mine16 LS W wr.drew q ((k : Int) + 1) s F) := H3.out.later HS.out.1 (Below.refl _ _).drew
      clear H3 c0 c1 hz
      generalize wr.drew = w4 at *
      refine' take_at (i := 0) (d := 56) (v := _) rfl rfl (by kernel_rfl) (by kernel_rfl) (by kernel_rfl) (fun _ _ _ h => h) (Or.inl ⟨by rfl, ?h0⟩) (HV.out.1.on H4.out.below HX.out.1) ?_
      case h0 =>
        intro w hSw
        obtain ⟨t0, t1⟩ := hSw
        go_simp
        with_reducible rfl
      simp only [List.setIfInBounds_toArray, List.set_cons_zero, List.set_cons_succ]
      refine' take_at (i := 1) (d := 57) (v := _) rfl rfl (by kernel_rfl) (by kernel_rfl) (by kernel_rfl) (fun _ _ _ h => h) (Or.inl ⟨by rfl, ?h1⟩) (HV.out.1.on H4.out.below HX.out.1) ?_
      case h1 =>
        intro w hSw
        obtain ⟨t0, t1⟩ := hSw
        go_simp
        with_reducible rfl
      simp only [List.setIfInBounds_toArray, List.set_cons_zero, List.set_cons_succ]
      refine' take_at (i := 2) (d := 58) (v := _) rfl rfl (by kernel_rfl) (by kernel_rfl) (by kernel_rfl) (fun _ _ _ h => h) (Or.inl ⟨by rfl, ?h2⟩) (HV.out.1.on H4.out.below HX.out.1) ?_
      case h2 =>
        intro w hSw
        obtain ⟨t0, t1⟩ := hSw
        go_simp
        with_reducible rfl
      simp only [List.setIfInBounds_toArray, List.set_cons_zero, List.set_cons_succ]
      refine' take_at (i := 3) (d := 59) (v := _) rfl rfl (by kernel_rfl) (by kernel_rfl) (by kernel_rfl) (fun _ _ _ h => h) (Or.inl ⟨by rfl, ?h3⟩) (HV.out.1.on H4.out.below HX.out.1) ?_
      case h3 =>
        intro w hSw
        obtain ⟨t0, t1⟩ := hSw
        go_simp
        with_reducible rfl
      simp only [List.setIfInBounds_toArray, List.set_cons_zero, List.set_cons_succ]
      refine' take_at (i := 4) (d := 60) (v := _) rfl rfl (by kernel_rfl) (by kernel_rfl) (by kernel_rfl) (fun _ _ _ h => h) (Or.inl ⟨by rfl, ?h4⟩) (HV.out.1.on H4.out.below HX.out.1) ?_
      case h4 =>
        intro w hSw
        obtain ⟨t0, t1⟩ := hSw
        go_simp
        with_reducible rfl
      simp only [List.setIfInBounds_toArray, List.set_cons_zero, List.set_cons_succ]
      refine' take_at (i := 5) (d := 61) (v := _) rfl rfl (by kernel_rfl) (by kernel_rfl) (by kernel_rfl) (fun _ _ _ h => h) (Or.inl ⟨by rfl, ?h5⟩) (HV.out.1.on H4.out.below HX.out.1) ?_
      case h5 =>
        intro w hSw
        obtain ⟨t0, t1⟩ := hSw
        go_simp
        with_reducible rfl
      simp only [List.setIfInBounds_toArray, List.set_cons_zero, List.set_cons_succ]
      refine' take_at (i := 6) (d := 62) (v := _) rfl rfl (by kernel_rfl) (by kernel_rfl) (by kernel_rfl) (fun _ _ _ h => h) (Or.inl ⟨by rfl, ?h6⟩) (HV.out.1.on H4.out.below HX.out.1) ?_
      case h6 =>
        intro w hSw
        obtain ⟨t0, t1⟩ := hSw
        go_simp
        with_reducible rfl
      simp only [List.setIfInBounds_toArray, List.set_cons_zero, List.set_cons_succ]
      refine' take_at (i := 7) (d := 63) (v := _) rfl rfl (by kernel_rfl) (by kernel_rfl) (by kernel_rfl) (fun _ _ _ h => h) (Or.inl ⟨by rfl, ?h7⟩) (HV.out.1.on H4.out.below HX.out.1) ?_
      case h7 =>
        intro w hSw
        obtain ⟨t0, t1⟩ := hSw
        go_simp
        with_reducible rfl
      simp only [List.setIfInBounds_toArray, List.set_cons_zero, List.set_cons_succ]
      refine' take_at (i := 8) (d := 64) (v := _) rfl rfl (by kernel_rfl) (by kernel_rfl) (by kernel_rfl) (fun _ _ _ h => h) (Or.inl ⟨by rfl, ?h8⟩) (HV.out.1.on H4.out.below HX.out.1) ?_
      case h8 =>
        intro w hSw
        obtain ⟨t0, t1⟩ := hSw
        go_simp
        with_reducible rfl
      simp only [List.setIfInBounds_toArray, List.set_cons_zero, List.set_cons_succ]
      refine' take_at (i := 9) (d := 65) (v := _) rfl rfl (by kernel_rfl) (by kernel_rfl) (by kernel_rfl) (fun _ _ _ h => h) (Or.inl ⟨by rfl, ?h9⟩) (HV.out.1.on H4.out.below HX.out.1) ?_
      case h9 =>
        intro w hSw
        obtain ⟨t0, t1⟩ := hSw
        go_simp
        with_reducible rfl
      simp only [List.setIfInBounds_toArray, List.set_cons_zero, List.set_cons_succ]
      refine' take_at (i := 10) (d := 66) (v := _) rfl rfl (by kernel_rfl) (by kernel_rfl) (by kernel_rfl) (fun _ _ _ h => h) (Or.inl ⟨by rfl, ?h10⟩) (HV.out.1.on H4.out.below HX.out.1) ?_
      case h10 =>
        intro w hSw
        obtain ⟨t0, t1⟩ := hSw
        go_simp
        with_reducible rfl
      simp only [List.setIfInBounds_toArray, List.set_cons_zero, List.set_cons_succ]
      refine wpAnyH_ready (rs := [11]) (by kernel_rfl) (by simp) ?_
      refine AllReadyH.cons (o := _) rfl (fun KQ hKQ => ?_) AllReadyH.nil
      go_simp
      refine (H4.out.move HS.out.1 HS.out.2.1 hkm x.top x.shard HX.out.2 za s6 HMV.out).mono ?_
      rintro e w5 ⟨F5, rfl, hM, hmv⟩
      have H5 : Hid (Mine16 LS W w5 q ((k : Int) + 1 + 1) s6 F5) := hM
      clear hM hmv H4
      refine hKQ.out _ _ (HV.out.1.on H5.out.below HX.out.1) (fun _ => ?_)
      clear hKQ KQ
      refine wpAnyH_done (by kernel_rfl) ?_ _
      go_wp2
      go_roundw
      case rel => exact ⟨k + 1, s6, F5, by omega, by go_num, by simpa using H5.out⟩
      case measure => simp [intOf]; omega
    · have hlt' : ¬ (k : Int) < (N : Int) := by omega
      have HKN : Hid (k ≤ 20) := (show k ≤ 20 by have := HA.out.2.2.1; omega)
      have HGB : Hid (Tb.get (Tb.bytes s) = some s ∧ (Tb.bytes s).length ≤ 4000) := ⟨Tb.get_bytes H3.out.fine (by have := HKN.out; omega), by have := Tb.bytes_len H3.out.fine; omega⟩
      go_wp2_with fail
      refine (H3.out.put HS.out.1).mono ?_
      rintro e w4 ⟨vp, rfl, hvp, hM4, hb4⟩
      have H4 : Hid (Mine16 LS W w4 q ((k : Int) + 1) s F ∧ Bs w4 vp (Tb.bytes s)) := ⟨hM4, Bs.own hvp⟩
      obtain ⟨ap, cp, hve, _, _⟩ := row_form hvp
      obtain ⟨LB, hLB⟩ : ∃ z, z = (Tb.bytes s).length := ⟨_, rfl⟩
      rw [← hLB] at hve
      subst hve
      clear hM4 hvp hb4 hLB H3
      go_wp2_with fail
      refine (mine16_get HS.out.1 H4.out.1.below HS.out.2.1 _ (Tb.bytes s) H4.out.2 HGB.out.2 s HGB.out.1).mono ?_
      rintro e w5 ⟨r, G, rfl, hM5, hG5, hb5⟩
      have H5 : Hid (Bo16 LS LS W w5 q r ((k : Int) + 1) s s F G) := by
        have h1 := H4.out.1.later HS.out.1 hb5
        exact ⟨h1, ⟨hM5.ld, h1.fine, hM5.hi, hM5.below⟩, fun j hj e => by have := HS.out.1.lt H4.out.1.ld hj; have := hG5 j e; omega⟩
      clear hM5 hG5 hb5 H4
      go_wp2
      go_loopw [14] (fun i wx => ∃ (j : Nat) (t : Tb.St) (F G : Nat → Prop), j ≤ M ∧ i = .int .i64 (j : Int) ∧ Bo16 LS LS W wx q r ((k : Int) + 1 + (j : Int)) t t F G) (fun i _ => M - (intOf i).toNat)
      case atStart => exact ⟨0, s, F, G, Nat.zero_le _, rfl, by simpa using H5.out⟩
      case round =>
        obtain ⟨j, t, F7, G7, hj, rfl, hB⟩ := hrel
        have H7 : Hid (Bo16 LS LS W wr q r ((k : Int) + 1 + (j : Int)) t t F7 G7) := hB
        clear hB H5
        have hjm : ((k : Int) + 1 + (j : Int)) ≤ 2199023255552 := by have := HKN.out; have := HA.out.2.2.2.1; omega
        by_cases hlj : j < M
        · have hlj' : (j : Int) < (M : Int) := by omega
          have hj0 : (0 : Int) ≤ (j : Int) := by omega
          have hwj : IntKind.wrap .i64 ((j : Int) + 1) = (j : Int) + 1 := by rw [IntKind.wrap_i64]; omega
          obtain ⟨x, hx⟩ : ∃ x, ys[j]? = some x := ⟨ys[j]'(by rw [← HU.out.2]; exact hlj), List.getElem?_eq_getElem _⟩
          have HX : Hid (ys[j]? = some x ∧ x.top.size ≤ maxLen) := ⟨hx, (HS.out.2.2.2 x (List.mem_of_getElem? hx)).top⟩
          obtain ⟨g, o, rfl, c0, c1⟩ := (HU.out.1.below H7.out.one.below).at hx
          have hxt : x.top.size ≤ 9223372036854775807 := HX.out.2
          clear hx
          by_cases ax : (100 : Int) < (x.top.size : Int)
          · go_wp2
            go_ret
            exact ⟨rfl, H7.out.one.below⟩
          obtain ⟨za, s6, hz⟩ : ∃ za s6, Tb.move t x.top x.shard = (za, s6) := ⟨_, _, rfl⟩
          obtain ⟨zo, hzo⟩ : ∃ zo, zo = Tb.of s6 p := ⟨_, rfl⟩
          have HMV : Hid (Tb.move t x.top x.shard = (za, s6) ∧ zo = Tb.of s6 p) := ⟨hz, hzo⟩
          have haa : (za != za) = false := by simp
          have hoo : (zo != zo) = false := by simp
          go_upto_region 20 with fail
          clear ax hz hzo
          refine wp_region_held_drew (S := fun w' => w'.cell? ⟨g, o + j * 2, none⟩ = some (.string x.top) ∧ w'.cell? ⟨g, o + j * 2 + 1, none⟩ = some (.int .i64 x.shard)) (by kernel_rfl) ⟨c0, c1⟩ (fun _ => ?_)
          have J0 : Hid (Bo16 LS LS W wr.drew q r ((k : Int) + 1 + (j : Int)) t t F7 G7) := H7.out.later HS.out.1 HS.out.1.lt HS.out.1.keep (Below.refl _ _).drew
          clear H7 c0 c1
          generalize wr.drew = s0 at *
          refine' take_at (i := 0) (d := 89) (v := _) rfl rfl (by kernel_rfl) (by kernel_rfl) (by kernel_rfl) (fun _ _ _ h => h) (Or.inl ⟨by rfl, ?h0⟩) (HU.out.1.on J0.out.one.below HX.out.1) ?_
          case h0 =>
            intro w hSw
            obtain ⟨t0, t1⟩ := hSw
            go_simp
            with_reducible rfl
          simp only [List.setIfInBounds_toArray, List.set_cons_zero, List.set_cons_succ]
          refine' take_at (i := 1) (d := 90) (v := _) rfl rfl (by kernel_rfl) (by kernel_rfl) (by kernel_rfl) (fun _ _ _ h => h) (Or.inl ⟨by rfl, ?h1⟩) (HU.out.1.on J0.out.one.below HX.out.1) ?_
          case h1 =>
            intro w hSw
            obtain ⟨t0, t1⟩ := hSw
            go_simp
            with_reducible rfl
          simp only [List.setIfInBounds_toArray, List.set_cons_zero, List.set_cons_succ]
          refine' take_at (i := 2) (d := 91) (v := _) rfl rfl (by kernel_rfl) (by kernel_rfl) (by kernel_rfl) (fun _ _ _ h => h) (Or.inl ⟨by rfl, ?h2⟩) (HU.out.1.on J0.out.one.below HX.out.1) ?_
          case h2 =>
            intro w hSw
            obtain ⟨t0, t1⟩ := hSw
            go_simp
            with_reducible rfl
          simp only [List.setIfInBounds_toArray, List.set_cons_zero, List.set_cons_succ]
          refine' take_at (i := 3) (d := 92) (v := _) rfl rfl (by kernel_rfl) (by kernel_rfl) (by kernel_rfl) (fun _ _ _ h => h) (Or.inl ⟨by rfl, ?h3⟩) (HU.out.1.on J0.out.one.below HX.out.1) ?_
          case h3 =>
            intro w hSw
            obtain ⟨t0, t1⟩ := hSw
            go_simp
            with_reducible rfl
          simp only [List.setIfInBounds_toArray, List.set_cons_zero, List.set_cons_succ]
          refine' take_at (i := 4) (d := 93) (v := _) rfl rfl (by kernel_rfl) (by kernel_rfl) (by kernel_rfl) (fun _ _ _ h => h) (Or.inl ⟨by rfl, ?h4⟩) (HU.out.1.on J0.out.one.below HX.out.1) ?_
          case h4 =>
            intro w hSw
            obtain ⟨t0, t1⟩ := hSw
            go_simp
            with_reducible rfl
          simp only [List.setIfInBounds_toArray, List.set_cons_zero, List.set_cons_succ]
          refine' take_at (i := 5) (d := 94) (v := _) rfl rfl (by kernel_rfl) (by kernel_rfl) (by kernel_rfl) (fun _ _ _ h => h) (Or.inl ⟨by rfl, ?h5⟩) (HU.out.1.on J0.out.one.below HX.out.1) ?_
          case h5 =>
            intro w hSw
            obtain ⟨t0, t1⟩ := hSw
            go_simp
            with_reducible rfl
          simp only [List.setIfInBounds_toArray, List.set_cons_zero, List.set_cons_succ]
          refine' take_at (i := 6) (d := 95) (v := _) rfl rfl (by kernel_rfl) (by kernel_rfl) (by kernel_rfl) (fun _ _ _ h => h) (Or.inl ⟨by rfl, ?h6⟩) (HU.out.1.on J0.out.one.below HX.out.1) ?_
          case h6 =>
            intro w hSw
            obtain ⟨t0, t1⟩ := hSw
            go_simp
            with_reducible rfl
          simp only [List.setIfInBounds_toArray, List.set_cons_zero, List.set_cons_succ]
          refine' take_at (i := 7) (d := 96) (v := _) rfl rfl (by kernel_rfl) (by kernel_rfl) (by kernel_rfl) (fun _ _ _ h => h) (Or.inl ⟨by rfl, ?h7⟩) (HU.out.1.on J0.out.one.below HX.out.1) ?_
          case h7 =>
            intro w hSw
            obtain ⟨t0, t1⟩ := hSw
            go_simp
            with_reducible rfl
          simp only [List.setIfInBounds_toArray, List.set_cons_zero, List.set_cons_succ]
          refine' take_at (i := 8) (d := 97) (v := _) rfl rfl (by kernel_rfl) (by kernel_rfl) (by kernel_rfl) (fun _ _ _ h => h) (Or.inl ⟨by rfl, ?h8⟩) (HU.out.1.on J0.out.one.below HX.out.1) ?_
          case h8 =>
            intro w hSw
            obtain ⟨t0, t1⟩ := hSw
            go_simp
            with_reducible rfl
          simp only [List.setIfInBounds_toArray, List.set_cons_zero, List.set_cons_succ]
          refine' take_at (i := 9) (d := 98) (v := _) rfl rfl (by kernel_rfl) (by kernel_rfl) (by kernel_rfl) (fun _ _ _ h => h) (Or.inl ⟨by rfl, ?h9⟩) (HU.out.1.on J0.out.one.below HX.out.1) ?_
          case h9 =>
            intro w hSw
            obtain ⟨t0, t1⟩ := hSw
            go_simp
            with_reducible rfl
          simp only [List.setIfInBounds_toArray, List.set_cons_zero, List.set_cons_succ]
          refine' take_at (i := 10) (d := 99) (v := _) rfl rfl (by kernel_rfl) (by kernel_rfl) (by kernel_rfl) (fun _ _ _ h => h) (Or.inl ⟨by rfl, ?h10⟩) (HU.out.1.on J0.out.one.below HX.out.1) ?_
          case h10 =>
            intro w hSw
            obtain ⟨t0, t1⟩ := hSw
            go_simp
            with_reducible rfl
          simp only [List.setIfInBounds_toArray, List.set_cons_zero, List.set_cons_succ]
          refine' take_at (i := 12) (d := 101) (v := _) rfl rfl (by kernel_rfl) (by kernel_rfl) (by kernel_rfl) (fun _ _ _ h => h) (Or.inl ⟨by rfl, ?h12⟩) (HU.out.1.on J0.out.one.below HX.out.1) ?_
          case h12 =>
            intro w hSw
            obtain ⟨t0, t1⟩ := hSw
            go_simp
            with_reducible rfl
          simp only [List.setIfInBounds_toArray, List.set_cons_zero, List.set_cons_succ]
          refine' take_at (i := 13) (d := 102) (v := _) rfl rfl (by kernel_rfl) (by kernel_rfl) (by kernel_rfl) (fun _ _ _ h => h) (Or.inl ⟨by rfl, ?h13⟩) (HU.out.1.on J0.out.one.below HX.out.1) ?_
          case h13 =>
            intro w hSw
            obtain ⟨t0, t1⟩ := hSw
            go_simp
            with_reducible rfl
          simp only [List.setIfInBounds_toArray, List.set_cons_zero, List.set_cons_succ]
          refine' take_at (i := 14) (d := 103) (v := _) rfl rfl (by kernel_rfl) (by kernel_rfl) (by kernel_rfl) (fun _ _ _ h => h) (Or.inl ⟨by rfl, ?h14⟩) (HU.out.1.on J0.out.one.below HX.out.1) ?_
          case h14 =>
            intro w hSw
            obtain ⟨t0, t1⟩ := hSw
            go_simp
            with_reducible rfl
          simp only [List.setIfInBounds_toArray, List.set_cons_zero, List.set_cons_succ]
          refine' take_at (i := 15) (d := 104) (v := _) rfl rfl (by kernel_rfl) (by kernel_rfl) (by kernel_rfl) (fun _ _ _ h => h) (Or.inl ⟨by rfl, ?h15⟩) (HU.out.1.on J0.out.one.below HX.out.1) ?_
          case h15 =>
            intro w hSw
            obtain ⟨t0, t1⟩ := hSw
            go_simp
            with_reducible rfl
          simp only [List.setIfInBounds_toArray, List.set_cons_zero, List.set_cons_succ]
          refine' take_at (i := 16) (d := 105) (v := _) rfl rfl (by kernel_rfl) (by kernel_rfl) (by kernel_rfl) (fun _ _ _ h => h) (Or.inl ⟨by rfl, ?h16⟩) (HU.out.1.on J0.out.one.below HX.out.1) ?_
          case h16 =>
            intro w hSw
            obtain ⟨t0, t1⟩ := hSw
            go_simp
            with_reducible rfl
          simp only [List.setIfInBounds_toArray, List.set_cons_zero, List.set_cons_succ]
          refine' take_at (i := 17) (d := 106) (v := _) rfl rfl (by kernel_rfl) (by kernel_rfl) (by kernel_rfl) (fun _ _ _ h => h) (Or.inl ⟨by rfl, ?h17⟩) (HU.out.1.on J0.out.one.below HX.out.1) ?_
          case h17 =>
            intro w hSw
            obtain ⟨t0, t1⟩ := hSw
            go_simp
            with_reducible rfl
          simp only [List.setIfInBounds_toArray, List.set_cons_zero, List.set_cons_succ]
          refine' take_at (i := 18) (d := 107) (v := _) rfl rfl (by kernel_rfl) (by kernel_rfl) (by kernel_rfl) (fun _ _ _ h => h) (Or.inl ⟨by rfl, ?h18⟩) (HU.out.1.on J0.out.one.below HX.out.1) ?_
          case h18 =>
            intro w hSw
            obtain ⟨t0, t1⟩ := hSw
            go_simp
            with_reducible rfl
          simp only [List.setIfInBounds_toArray, List.set_cons_zero, List.set_cons_succ]
          refine' take_at (i := 19) (d := 108) (v := _) rfl rfl (by kernel_rfl) (by kernel_rfl) (by kernel_rfl) (fun _ _ _ h => h) (Or.inl ⟨by rfl, ?h19⟩) (HU.out.1.on J0.out.one.below HX.out.1) ?_
          case h19 =>
            intro w hSw
            obtain ⟨t0, t1⟩ := hSw
            go_simp
            with_reducible rfl
          simp only [List.setIfInBounds_toArray, List.set_cons_zero, List.set_cons_succ]
          refine' take_at (i := 20) (d := 109) (v := _) rfl rfl (by kernel_rfl) (by kernel_rfl) (by kernel_rfl) (fun _ _ _ h => h) (Or.inl ⟨by rfl, ?h20⟩) (HU.out.1.on J0.out.one.below HX.out.1) ?_
          case h20 =>
            intro w hSw
            obtain ⟨t0, t1⟩ := hSw
            go_simp
            with_reducible rfl
          simp only [List.setIfInBounds_toArray, List.set_cons_zero, List.set_cons_succ]
          refine' take_at (i := 21) (d := 110) (v := _) rfl rfl (by kernel_rfl) (by kernel_rfl) (by kernel_rfl) (fun _ _ _ h => h) (Or.inl ⟨by rfl, ?h21⟩) (HU.out.1.on J0.out.one.below HX.out.1) ?_
          case h21 =>
            intro w hSw
            obtain ⟨t0, t1⟩ := hSw
            go_simp
            with_reducible rfl
          simp only [List.setIfInBounds_toArray, List.set_cons_zero, List.set_cons_succ]
          refine' take_at (i := 22) (d := 111) (v := _) rfl rfl (by kernel_rfl) (by kernel_rfl) (by kernel_rfl) (fun _ _ _ h => h) (Or.inl ⟨by rfl, ?h22⟩) (HU.out.1.on J0.out.one.below HX.out.1) ?_
          case h22 =>
            intro w hSw
            obtain ⟨t0, t1⟩ := hSw
            go_simp
            with_reducible rfl
          simp only [List.setIfInBounds_toArray, List.set_cons_zero, List.set_cons_succ]
          refine wpAnyH_ready (rs := [11]) (by kernel_rfl) (by simp) ?_
          refine AllReadyH.cons (o := _) rfl (fun KQ hKQ => ?_) AllReadyH.nil
          go_simp
          refine (J0.out.one.move HS.out.1 HS.out.2.1 hjm x.top x.shard HX.out.2 za s6 HMV.out.1).mono ?_
          rintro e s1 ⟨F8, rfl, hM, hmv⟩
          have J1 : Hid (Bo16 LS LS W s1 q r ((k : Int) + 1 + (j : Int) + 1) s6 t F8 G7 ∧ Mine16 LS W s1 r ((k : Int) + 1 + (j : Int)) t G7) := by
            have h := J0.out.first (LT := LS) (m' := (k : Int) + 1 + (j : Int) + 1) HS.out.1.lt HS.out.1.keep hM hmv (show (k : Int) + 1 + (j : Int) ≤ (k : Int) + 1 + (j : Int) + 1 by omega)
            exact ⟨h, h.two.ld, J0.out.two.fine, h.two.hi, h.two.below⟩
          clear hM hmv J0
          refine hKQ.out _ _ (HU.out.1.on J1.out.1.one.below HX.out.1) (fun _ => ?_)
          clear hKQ KQ
          refine wpAnyH_ready (rs := [23]) (by kernel_rfl) (by simp) ?_
          refine AllReadyH.cons (o := _) rfl (fun KQ hKQ => ?_) AllReadyH.nil
          go_simp
          refine (J1.out.2.move HS.out.1 HS.out.2.1 hjm x.top x.shard HX.out.2 za s6 HMV.out.1).mono ?_
          rintro e s2 ⟨G8, rfl, hM, hmv⟩
          have J2 : Hid (Bo16 LS LS W s2 q r ((k : Int) + 1 + (j : Int) + 1) s6 s6 F8 G8) := J1.out.1.second HS.out.1 hM hmv (Int.le_refl _)
          clear hM hmv J1
          refine hKQ.out _ _ (HU.out.1.on J2.out.one.below HX.out.1) (fun _ => ?_)
          clear hKQ KQ
          refine' take_at (i := 24) (d := 113) (v := _) rfl rfl (by kernel_rfl) (by kernel_rfl) (by kernel_rfl) (fun _ _ _ h => h) (Or.inl ⟨by rfl, ?h24⟩) (HU.out.1.on J2.out.one.below HX.out.1) ?_
          case h24 =>
            intro w hSw
            clear hSw
            go_simp
            with_reducible rfl
          simp only [List.setIfInBounds_toArray, List.set_cons_zero, List.set_cons_succ]
          refine' take_at (i := 25) (d := 114) (v := _) rfl rfl (by kernel_rfl) (by kernel_rfl) (by kernel_rfl) (fun _ _ _ h => h) (Or.inl ⟨by rfl, ?h25⟩) (HU.out.1.on J2.out.one.below HX.out.1) ?_
          case h25 =>
            intro w hSw
            clear hSw
            go_simp
            with_reducible rfl
          simp only [List.setIfInBounds_toArray, List.set_cons_zero, List.set_cons_succ]
          refine' take_at (i := 26) (d := 115) (v := _) rfl rfl (by kernel_rfl) (by kernel_rfl) (by kernel_rfl) (fun _ _ _ h => h) (Or.inl ⟨by rfl, ?h26⟩) (HU.out.1.on J2.out.one.below HX.out.1) ?_
          case h26 =>
            intro w hSw
            clear hSw
            go_simp
            with_reducible rfl
          simp only [List.setIfInBounds_toArray, List.set_cons_zero, List.set_cons_succ]
          refine' take_at (i := 27) (d := 116) (v := _) rfl rfl (by kernel_rfl) (by kernel_rfl) (by kernel_rfl) (fun _ _ _ h => h) (Or.inl ⟨by rfl, ?h27⟩) (HU.out.1.on J2.out.one.below HX.out.1) ?_
          case h27 =>
            intro w hSw
            clear hSw
            go_simp
            with_reducible rfl
          simp only [List.setIfInBounds_toArray, List.set_cons_zero, List.set_cons_succ]
          refine' take_at (i := 29) (d := 118) (v := _) rfl rfl (by kernel_rfl) (by kernel_rfl) (by kernel_rfl) (fun _ _ _ h => h) (Or.inl ⟨by rfl, ?h29⟩) (HU.out.1.on J2.out.one.below HX.out.1) ?_
          case h29 =>
            intro w hSw
            clear hSw
            go_simp
            with_reducible rfl
          simp only [List.setIfInBounds_toArray, List.set_cons_zero, List.set_cons_succ]
          refine' take_at (i := 30) (d := 119) (v := _) rfl rfl (by kernel_rfl) (by kernel_rfl) (by kernel_rfl) (fun _ _ _ h => h) (Or.inl ⟨by rfl, ?h30⟩) (HU.out.1.on J2.out.one.below HX.out.1) ?_
          case h30 =>
            intro w hSw
            clear hSw
            go_simp
            with_reducible rfl
          simp only [List.setIfInBounds_toArray, List.set_cons_zero, List.set_cons_succ]
          refine wpAnyH_ready (rs := [28]) (by kernel_rfl) (by simp) ?_
          refine AllReadyH.cons (o := _) rfl (fun KQ hKQ => ?_) AllReadyH.nil
          go_simp
          refine (J2.out.one.of HS.out.1 HS.out.2.1 p HT.out zo HMV.out.2.symm).mono ?_
          rintro e s3 ⟨rfl, hM, hb⟩
          have J3 : Hid (Bo16 LS LS W s3 q r ((k : Int) + 1 + (j : Int) + 1) s6 s6 F8 G8) := J2.out.later HS.out.1 HS.out.1.lt HS.out.1.keep hb
          clear hM hb J2
          refine hKQ.out _ _ (HU.out.1.on J3.out.one.below HX.out.1) (fun _ => ?_)
          clear hKQ KQ
          refine wpAnyH_ready (rs := [31]) (by kernel_rfl) (by simp) ?_
          refine AllReadyH.cons (o := _) rfl (fun KQ hKQ => ?_) AllReadyH.nil
          go_simp
          refine (J3.out.two.of HS.out.1 HS.out.2.1 p HT.out zo HMV.out.2.symm).mono ?_
          rintro e s4 ⟨rfl, hM, hb⟩
          have J4 : Hid (Bo16 LS LS W s4 q r ((k : Int) + 1 + (j : Int) + 1) s6 s6 F8 G8) := J3.out.later HS.out.1 HS.out.1.lt HS.out.1.keep hb
          clear hM hb J3
          refine hKQ.out _ _ (HU.out.1.on J4.out.one.below HX.out.1) (fun _ => ?_)
          clear hKQ KQ
          refine' take_at (i := 32) (d := 121) (v := _) rfl rfl (by kernel_rfl) (by kernel_rfl) (by kernel_rfl) (fun _ _ _ h => h) (Or.inl ⟨by rfl, ?h32⟩) (HU.out.1.on J4.out.one.below HX.out.1) ?_
          case h32 =>
            intro w hSw
            clear hSw
            go_simp
            with_reducible rfl
          simp only [List.setIfInBounds_toArray, List.set_cons_zero, List.set_cons_succ]
          refine' take_at (i := 33) (d := 122) (v := _) rfl rfl (by kernel_rfl) (by kernel_rfl) (by kernel_rfl) (fun _ _ _ h => h) (Or.inl ⟨by rfl, ?h33⟩) (HU.out.1.on J4.out.one.below HX.out.1) ?_
          case h33 =>
            intro w hSw
            clear hSw
            go_simp
            with_reducible rfl
          simp only [List.setIfInBounds_toArray, List.set_cons_zero, List.set_cons_succ]
          refine wpAnyH_done (by kernel_rfl) ?_ _
          go_wp2
          go_roundw
          case rel => exact ⟨j + 1, s6, F8, G8, by omega, by go_num, by rw [show (k : Int) + 1 + ((j + 1 : Nat) : Int) = (k : Int) + 1 + (j : Int) + 1 by omega]; exact J4.out⟩
          case measure => simp [intOf]; omega
        · have hlj' : ¬ (j : Int) < (M : Int) := by omega
          obtain ⟨zo, hzo⟩ : ∃ zo, zo = Tb.of t p := ⟨_, rfl⟩
          have HZO : Hid (zo = Tb.of t p) := hzo
          have hoo : (zo == zo) = true := by simp
          go_upto_region 22 with fail
          refine wp_region_held_drew (S := fun w' => Below wr.heap.size wr w') (by kernel_rfl) (Below.refl _ _).drew (fun _ => ?_)
          refine wpAnyH_more (S' := fun w' => Below wr.drew.heap.size wr.drew w') (fun w' h => below_drew h) _ _ _ _ ?_
          have J0 : Hid (Bo16 LS LS W wr.drew q r ((k : Int) + 1 + (j : Int)) t t F7 G7) := H7.out.later HS.out.1 HS.out.1.lt HS.out.1.keep (Below.refl _ _).drew
          clear H7 hzo
          generalize wr.drew = s0 at *
          obtain ⟨Z, hZ⟩ : ∃ Z : ByteArray, Z = ⟨(Tb.bytes t).toArray⟩ := ⟨_, rfl⟩
          have HZ : Hid (Z = ⟨(Tb.bytes t).toArray⟩) := hZ
          have hzz : (Z.toList == Z.toList) = true := by simp
          clear hZ
          refine' take_at (i := 0) (d := 123) (v := _) rfl rfl (by kernel_rfl) (by kernel_rfl) (by kernel_rfl) (fun _ _ _ h => h) (Or.inl ⟨by rfl, ?h0⟩) (Below.refl _ _) ?_
          case h0 =>
            intro w hSw
            go_simp
            with_reducible rfl
          simp only [List.setIfInBounds_toArray, List.set_cons_zero, List.set_cons_succ]
          refine' take_at (i := 1) (d := 124) (v := _) rfl rfl (by kernel_rfl) (by kernel_rfl) (by kernel_rfl) (fun _ _ _ h => h) (Or.inl ⟨by rfl, ?h1⟩) (Below.refl _ _) ?_
          case h1 =>
            intro w hSw
            go_simp
            with_reducible rfl
          simp only [List.setIfInBounds_toArray, List.set_cons_zero, List.set_cons_succ]
          refine' take_at (i := 3) (d := 126) (v := _) rfl rfl (by kernel_rfl) (by kernel_rfl) (by kernel_rfl) (fun _ _ _ h => h) (Or.inl ⟨by rfl, ?h3⟩) (Below.refl _ _) ?_
          case h3 =>
            intro w hSw
            go_simp
            with_reducible rfl
          simp only [List.setIfInBounds_toArray, List.set_cons_zero, List.set_cons_succ]
          refine' take_at (i := 4) (d := 127) (v := _) rfl rfl (by kernel_rfl) (by kernel_rfl) (by kernel_rfl) (fun _ _ _ h => h) (Or.inl ⟨by rfl, ?h4⟩) (Below.refl _ _) ?_
          case h4 =>
            intro w hSw
            go_simp
            with_reducible rfl
          simp only [List.setIfInBounds_toArray, List.set_cons_zero, List.set_cons_succ]
          refine wpAnyH_ready (rs := [2]) (by kernel_rfl) (by simp) ?_
          refine AllReadyH.cons (o := _) rfl (fun KQ hKQ => ?_) AllReadyH.nil
          go_simp
          refine (J0.out.one.of HS.out.1 HS.out.2.1 p HT.out zo HZO.out.symm).mono ?_
          rintro e s1 ⟨rfl, hM, hb⟩
          have J1 : Hid (Bo16 LS LS W s1 q r ((k : Int) + 1 + (j : Int)) t t F7 G7) := J0.out.later HS.out.1 HS.out.1.lt HS.out.1.keep hb
          clear hM J0
          refine hKQ.out _ _ hb (fun _ => ?_)
          refine wpAnyH_more (S' := fun w' => Below s1.heap.size s1 w') (fun w' h => hb.trans (h.mono hb.size)) _ _ _ _ ?_
          clear hKQ KQ hb
          refine wpAnyH_ready (rs := [5]) (by kernel_rfl) (by simp) ?_
          refine AllReadyH.cons (o := _) rfl (fun KQ hKQ => ?_) AllReadyH.nil
          go_simp
          refine (J1.out.two.of HS.out.1 HS.out.2.1 p HT.out zo HZO.out.symm).mono ?_
          rintro e s2 ⟨rfl, hM, hb⟩
          have J2 : Hid (Bo16 LS LS W s2 q r ((k : Int) + 1 + (j : Int)) t t F7 G7) := J1.out.later HS.out.1 HS.out.1.lt HS.out.1.keep hb
          clear hM J1
          refine hKQ.out _ _ hb (fun _ => ?_)
          refine wpAnyH_more (S' := fun w' => Below s2.heap.size s2 w') (fun w' h => hb.trans (h.mono hb.size)) _ _ _ _ ?_
          clear hKQ KQ hb
          refine' take_at (i := 6) (d := 129) (v := _) rfl rfl (by kernel_rfl) (by kernel_rfl) (by kernel_rfl) (fun _ _ _ h => h) (Or.inl ⟨by rfl, ?h6⟩) (Below.refl _ _) ?_
          case h6 =>
            intro w hSw
            go_simp
            with_reducible rfl
          simp only [List.setIfInBounds_toArray, List.set_cons_zero, List.set_cons_succ]
          refine' take_at (i := 7) (d := 130) (v := _) rfl rfl (by kernel_rfl) (by kernel_rfl) (by kernel_rfl) (fun _ _ _ h => h) (Or.inl ⟨by rfl, ?h7⟩) (Below.refl _ _) ?_
          case h7 =>
            intro w hSw
            go_simp
            with_reducible rfl
          simp only [List.setIfInBounds_toArray, List.set_cons_zero, List.set_cons_succ]
          refine' take_at (i := 8) (d := 131) (v := _) rfl rfl (by kernel_rfl) (by kernel_rfl) (by kernel_rfl) (fun _ _ _ h => h) (Or.inl ⟨by rfl, ?h8⟩) (Below.refl _ _) ?_
          case h8 =>
            intro w hSw
            go_simp
            with_reducible rfl
          simp only [List.setIfInBounds_toArray, List.set_cons_zero, List.set_cons_succ]
          refine' take_at (i := 11) (d := 134) (v := _) rfl rfl (by kernel_rfl) (by kernel_rfl) (by kernel_rfl) (fun _ _ _ h => h) (Or.inl ⟨by rfl, ?h11⟩) (Below.refl _ _) ?_
          case h11 =>
            intro w hSw
            go_simp
            with_reducible rfl
          simp only [List.setIfInBounds_toArray, List.set_cons_zero, List.set_cons_succ]
          refine wpAnyH_ready (rs := [9]) (by kernel_rfl) (by simp) ?_
          refine AllReadyH.cons (o := _) rfl (fun KQ hKQ => ?_) AllReadyH.nil
          go_simp
          refine (J2.out.one.put HS.out.1).mono ?_
          rintro e s4 ⟨vp, rfl, hvp, hM, hb⟩
          have J4 : Hid (Bo16 LS LS W s4 q r ((k : Int) + 1 + (j : Int)) t t F7 G7 ∧ Bs s4 vp (Tb.bytes t)) := ⟨J2.out.later HS.out.1 HS.out.1.lt HS.out.1.keep hb, Bs.own hvp⟩
          obtain ⟨ap, cp9, hve, _, _⟩ := row_form hvp
          obtain ⟨LB9, hLB⟩ : ∃ z, z = (Tb.bytes t).length := ⟨_, rfl⟩
          rw [← hLB] at hve
          subst hve
          clear hvp hM hLB J2
          simp only []
          refine hKQ.out _ _ hb (fun _ => ?_)
          refine wpAnyH_more (S' := fun w' => Below s4.heap.size s4 w') (fun w' h => hb.trans (h.mono hb.size)) _ _ _ _ ?_
          clear hKQ KQ hb
          refine' take_at (i := 10) (d := 133) (v := _) rfl rfl (by kernel_rfl) (by kernel_rfl) (by kernel_rfl) (fun _ _ _ h => h) (Or.inl ⟨by rfl, ?h10⟩) (Below.refl _ _) ?_
          case h10 =>
            intro w hSw
            have hcv := (J4.out.2.below hSw).conv
            rw [← HZ.out] at hcv
            go_simp
            with_reducible rfl
          simp only [List.setIfInBounds_toArray, List.set_cons_zero, List.set_cons_succ]
          refine wpAnyH_ready (rs := [12]) (by kernel_rfl) (by simp) ?_
          refine AllReadyH.cons (o := _) rfl (fun KQ hKQ => ?_) AllReadyH.nil
          go_simp
          refine (J4.out.1.two.put HS.out.1).mono ?_
          rintro e s5 ⟨vp, rfl, hvp, hM, hb⟩
          have J5 : Hid (Bo16 LS LS W s5 q r ((k : Int) + 1 + (j : Int)) t t F7 G7 ∧ Bs s5 vp (Tb.bytes t)) := ⟨J4.out.1.later HS.out.1 HS.out.1.lt HS.out.1.keep hb, Bs.own hvp⟩
          obtain ⟨ap2, cp2, hve, _, _⟩ := row_form hvp
          obtain ⟨LB2, hLB⟩ : ∃ z, z = (Tb.bytes t).length := ⟨_, rfl⟩
          rw [← hLB] at hve
          subst hve
          clear hvp hM hLB J4
          simp only []
          refine hKQ.out _ _ hb (fun _ => ?_)
          refine wpAnyH_more (S' := fun w' => Below s5.heap.size s5 w') (fun w' h => hb.trans (h.mono hb.size)) _ _ _ _ ?_
          clear hKQ KQ hb
          refine' take_at (i := 13) (d := 136) (v := _) rfl rfl (by kernel_rfl) (by kernel_rfl) (by kernel_rfl) (fun _ _ _ h => h) (Or.inl ⟨by rfl, ?h13⟩) (Below.refl _ _) ?_
          case h13 =>
            intro w hSw
            have hcv := (J5.out.2.below hSw).conv
            rw [← HZ.out] at hcv
            go_simp
            with_reducible rfl
          simp only [List.setIfInBounds_toArray, List.set_cons_zero, List.set_cons_succ]
          refine' take_at (i := 14) (d := 137) (v := _) rfl rfl (by kernel_rfl) (by kernel_rfl) (by kernel_rfl) (fun _ _ _ h => h) (Or.inl ⟨by rfl, ?h14⟩) (Below.refl _ _) ?_
          case h14 =>
            intro w hSw
            go_simp
            with_reducible rfl
          simp only [List.setIfInBounds_toArray, List.set_cons_zero, List.set_cons_succ]
          refine' take_at (i := 15) (d := 138) (v := _) rfl rfl (by kernel_rfl) (by kernel_rfl) (by kernel_rfl) (fun _ _ _ h => h) (Or.inl ⟨by rfl, ?h15⟩) (Below.refl _ _) ?_
          case h15 =>
            intro w hSw
            go_simp
            with_reducible rfl
          simp only [List.setIfInBounds_toArray, List.set_cons_zero, List.set_cons_succ]
          refine' take_at (i := 16) (d := 8) (v := _) rfl rfl (by kernel_rfl) (by kernel_rfl) (by kernel_rfl) (fun _ _ _ h => h) (Or.inl ⟨by rfl, ?h16⟩) (Below.refl _ _) ?_
          case h16 =>
            intro w hSw
            go_simp
            with_reducible rfl
          simp only [List.setIfInBounds_toArray, List.set_cons_zero, List.set_cons_succ]
          refine wpAnyH_done (by kernel_rfl) ?_ _
          go_wp2
          go_ret
          exact ⟨rfl, J5.out.1.one.below⟩
end Go.Proofs.YtpjdjobdbandhaaDoor
