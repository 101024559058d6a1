/- RouteMoves' walk. -/
import Derived.Test.YtpjdjobdbandhaaDoorLAwake16
import Derived.Test.YtpjdjobdbandhaaDoorActs16
namespace Go.Proofs.YtpjdjobdbandhaaDoor.Tb
theorem whose_moved {m : Int} {s : St} {t : ByteArray} {n : Int} (h : Fine m s) (h0 : (move s t n).1 = 0) : whose (move s t n).2 t = n ∧ ∀ u, u ≠ t → whose (move s t n).2 u = whose s u := by
  obtain ⟨_, h1, h2⟩ := own_move h h0
  refine ⟨by unfold whose; rw [h1]; rfl, fun u hu => ?_⟩
  unfold whose
  rw [h2 u hu, move_shards]
theorem of_moved {m : Int} {s : St} {t : ByteArray} {n : Int} (h : Fine m s) (h0 : (move s t n).1 = 0) (p : ByteArray) : of (move s t n).2 p = of s p ∨ (of (move s t n).2 p = n ∧ Pl.goodB p.data.toList = true ∧ topT p = t) := by
  unfold of
  cases hg : Pl.goodB p.data.toList with
  | false => exact Or.inl rfl
  | true =>
    simp only [if_true]
    by_cases e : topT p = t
    · exact Or.inr ⟨by rw [e]; exact (whose_moved h h0).1, trivial, e⟩
    · exact Or.inl ((whose_moved h h0).2 _ e)
theorem of_name {s : St} {t p : ByteArray} (hg : Pl.goodB p.data.toList = true) (ht : Pl.top p.data.toList = t.data.toList) : of s p = whose s t := by
  unfold of
  rw [if_pos hg]
  have e : topT p = t := by
    unfold topT
    rw [ht, Array.toArray_toList]
  rw [e]
theorem slash_data (t : ByteArray) : ((⟨#[47]⟩ : ByteArray) ++ t).data.toList = 47 :: t.data.toList := by rw [Pa.data_append]; rfl
theorem slash_x_data (t : ByteArray) : ((⟨#[47]⟩ : ByteArray) ++ t ++ (⟨#[47, 120]⟩ : ByteArray)).data.toList = 47 :: (t.data.toList ++ [47, 120]) := by rw [Pa.data_append, slash_data]; rfl
theorem of_slash {s : St} {t : ByteArray} (h : isName t = true) : of s ((⟨#[47]⟩ : ByteArray) ++ t) = whose s t := by
  obtain ⟨h1, h2⟩ := good_one h
  exact of_name (by rw [slash_data]; exact h1) (by rw [slash_data]; exact h2)
theorem of_slash_x {s : St} {t : ByteArray} (h : isName t = true) : of s ((⟨#[47]⟩ : ByteArray) ++ t ++ (⟨#[47, 120]⟩ : ByteArray)) = whose s t := by
  obtain ⟨h1, h2⟩ := good_two h
  exact of_name (by rw [slash_x_data]; exact h1) (by rw [slash_x_data]; exact h2)
end Go.Proofs.YtpjdjobdbandhaaDoor.Tb
namespace Go.Proofs.YtpjdjobdbandhaaDoor
open Go.RowKit

set_option maxRecDepth 100000 in
set_option maxHeartbeats 8000000 in
theorem moves_any16 {LS : Rep16} (S : Specs16 LS) (n : Int) (v : Value) (xs : List Tb.Ac) (t : ByteArray) (to' : Int) (p : ByteArray) (W : World) (hS : Pa.Std W) (hv : Acl16 W v xs) (hl : xs.length ≤ maxLen) (hok : ∀ x ∈ xs, AcOk16 x) (ht : t.size ≤ maxLen) (hp : p.size ≤ maxLen) :
    Calls Tryd.prog 7 #[.int .i64 n, v, .string t, .int .i64 to', .string p] W fun e w' => e = .returned (.bool true) ∧ Below W.heap.size W w' := by
  have HS : Hid (Specs16 LS ∧ Pa.Std W ∧ (∀ x ∈ xs, AcOk16 x)) := ⟨S, hS, hok⟩
  obtain ⟨av, N, c, rfl, hN, hj⟩ := hv
  have HV : Hid (Acl16 W (.slice av N c) xs ∧ N = xs.length) := ⟨⟨av, N, c, rfl, hN, hj⟩, hN⟩
  have hN63 : N ≤ 9223372036854775807 := by unfold maxLen at hl; omega
  have HT : Hid (t.size ≤ maxLen ∧ p.size ≤ maxLen) := ⟨ht, hp⟩
  unfold maxLen at ht hp
  clear S hS hok hl hN hj
  go_enter Tryd.func7, Tryd.ntmps7
  go_wp2_with fail
  refine (awake_any16 HS.out.1 W HS.out.2.1).mono ?_
  rintro e w0 ⟨rfl, hb0⟩
  have H0 : Hid (Below W.heap.size W w0) := hb0
  clear hb0
  by_cases a1 : n < 1
  · go_wp2
    go_ret
    exact ⟨rfl, H0.out⟩
  by_cases a2 : 4 < n
  · go_wp2
    go_ret
    exact ⟨rfl, H0.out⟩
  by_cases a3 : (20 : Int) < (N : Int)
  · go_wp2
    go_ret
    exact ⟨rfl, H0.out⟩
  by_cases a4 : (100 : Int) < (t.size : Int)
  · go_wp2
    go_ret
    exact ⟨rfl, H0.out⟩
  by_cases a5 : (300 : Int) < (p.size : Int)
  · go_wp2
    go_ret
    exact ⟨rfl, H0.out⟩
  have HA : Hid (1 ≤ n ∧ n ≤ 4 ∧ N ≤ 20 ∧ t.size ≤ 100 ∧ p.size ≤ 300) := ⟨by omega, by omega, by omega, by omega, by omega⟩
  go_wp2_with fail
  refine (mine16_new HS.out.1 H0.out n ⟨HA.out.1, HA.out.2.1⟩).mono ?_
  rintro e w1 ⟨q, F1, rfl, hM, hF, hb⟩
  have M1 : Hid (Mine16 LS W w1 q 1 (Tb.new n) F1) := hM
  clear hM hF hb H0 a1 a2 a3 a4 a5
  go_wp2
  go_loopw [13] (fun i wx => ∃ (k : Nat) (s : Tb.St) (F : Nat → Prop), k ≤ N ∧ i = .int .i64 (k : Int) ∧ Mine16 LS W wx q ((k : Int) + 1) s F) (fun i _ => N - (intOf i).toNat)
  case atStart => exact ⟨0, _, F1, Nat.zero_le _, rfl, M1.out⟩
  case round =>
    obtain ⟨k, s, F, hk, rfl, hM⟩ := hrel
    have H3 : Hid (Mine16 LS W wr q ((k : Int) + 1) s F) := hM
    clear hM M1
    by_cases hlt : k < N
    · have hlt' : (k : Int) < (N : Int) := by omega
      have hk0 : (0 : Int) ≤ (k : Int) := by omega
      have hwk : IntKind.wrap .i64 ((k : Int) + 1) = (k : Int) + 1 := by rw [IntKind.wrap_i64]; omega
      obtain ⟨x, hx⟩ : ∃ x, xs[k]? = some x := ⟨xs[k]'(by rw [← HV.out.2]; exact hlt), List.getElem?_eq_getElem _⟩
      have HX : Hid (xs[k]? = some x ∧ x.top.size ≤ maxLen) := ⟨hx, (HS.out.2.2 x (List.mem_of_getElem? hx)).top⟩
      obtain ⟨g, o, rfl, c0, c1⟩ := (HV.out.1.below H3.out.below).at hx
      have hxt : x.top.size ≤ 9223372036854775807 := HX.out.2
      clear hx
      by_cases ax : (100 : Int) < (x.top.size : Int)
      · go_wp2
        go_ret
        exact ⟨rfl, H3.out.below⟩
      have hkm : (k : Int) + 1 ≤ 2199023255552 := by have := HA.out.2.2.1; omega
      go_upto_region 11 with fail
      clear ax
      obtain ⟨za, s6, hz⟩ : ∃ za s6, Tb.move s x.top x.shard = (za, s6) := ⟨_, _, rfl⟩
      have HMV : Hid (Tb.move s x.top x.shard = (za, s6)) := hz
      refine wp_region_held_drew (S := fun w' => w'.cell? ⟨g, o + k * 2, none⟩ = some (.string x.top) ∧ w'.cell? ⟨g, o + k * 2 + 1, none⟩ = some (.int .i64 x.shard)) (by kernel_rfl) ⟨c0, c1⟩ (fun _ => ?_)
      have H4 : Hid (Mine16 LS W wr.drew q ((k : Int) + 1) s F) := H3.out.later HS.out.1 (Below.refl _ _).drew
      clear H3 c0 c1 hz
      generalize wr.drew = w4 at *
      refine' take_at (i := 0) (d := 57) (v := _) rfl rfl (by kernel_rfl) (by kernel_rfl) (by kernel_rfl) (fun _ _ _ h => h) (Or.inl ⟨by rfl, ?h0⟩) (HV.out.1.on H4.out.below HX.out.1) ?_
      case h0 =>
        intro w hSw
        obtain ⟨t0, t1⟩ := hSw
        go_simp
        with_reducible rfl
      simp only [List.setIfInBounds_toArray, List.set_cons_zero, List.set_cons_succ]
      refine' take_at (i := 1) (d := 58) (v := _) rfl rfl (by kernel_rfl) (by kernel_rfl) (by kernel_rfl) (fun _ _ _ h => h) (Or.inl ⟨by rfl, ?h1⟩) (HV.out.1.on H4.out.below HX.out.1) ?_
      case h1 =>
        intro w hSw
        obtain ⟨t0, t1⟩ := hSw
        go_simp
        with_reducible rfl
      simp only [List.setIfInBounds_toArray, List.set_cons_zero, List.set_cons_succ]
      refine' take_at (i := 2) (d := 59) (v := _) rfl rfl (by kernel_rfl) (by kernel_rfl) (by kernel_rfl) (fun _ _ _ h => h) (Or.inl ⟨by rfl, ?h2⟩) (HV.out.1.on H4.out.below HX.out.1) ?_
      case h2 =>
        intro w hSw
        obtain ⟨t0, t1⟩ := hSw
        go_simp
        with_reducible rfl
      simp only [List.setIfInBounds_toArray, List.set_cons_zero, List.set_cons_succ]
      refine' take_at (i := 3) (d := 60) (v := _) rfl rfl (by kernel_rfl) (by kernel_rfl) (by kernel_rfl) (fun _ _ _ h => h) (Or.inl ⟨by rfl, ?h3⟩) (HV.out.1.on H4.out.below HX.out.1) ?_
      case h3 =>
        intro w hSw
        obtain ⟨t0, t1⟩ := hSw
        go_simp
        with_reducible rfl
      simp only [List.setIfInBounds_toArray, List.set_cons_zero, List.set_cons_succ]
      refine' take_at (i := 4) (d := 61) (v := _) rfl rfl (by kernel_rfl) (by kernel_rfl) (by kernel_rfl) (fun _ _ _ h => h) (Or.inl ⟨by rfl, ?h4⟩) (HV.out.1.on H4.out.below HX.out.1) ?_
      case h4 =>
        intro w hSw
        obtain ⟨t0, t1⟩ := hSw
        go_simp
        with_reducible rfl
      simp only [List.setIfInBounds_toArray, List.set_cons_zero, List.set_cons_succ]
      refine' take_at (i := 5) (d := 62) (v := _) rfl rfl (by kernel_rfl) (by kernel_rfl) (by kernel_rfl) (fun _ _ _ h => h) (Or.inl ⟨by rfl, ?h5⟩) (HV.out.1.on H4.out.below HX.out.1) ?_
      case h5 =>
        intro w hSw
        obtain ⟨t0, t1⟩ := hSw
        go_simp
        with_reducible rfl
      simp only [List.setIfInBounds_toArray, List.set_cons_zero, List.set_cons_succ]
      refine' take_at (i := 6) (d := 63) (v := _) rfl rfl (by kernel_rfl) (by kernel_rfl) (by kernel_rfl) (fun _ _ _ h => h) (Or.inl ⟨by rfl, ?h6⟩) (HV.out.1.on H4.out.below HX.out.1) ?_
      case h6 =>
        intro w hSw
        obtain ⟨t0, t1⟩ := hSw
        go_simp
        with_reducible rfl
      simp only [List.setIfInBounds_toArray, List.set_cons_zero, List.set_cons_succ]
      refine' take_at (i := 7) (d := 64) (v := _) rfl rfl (by kernel_rfl) (by kernel_rfl) (by kernel_rfl) (fun _ _ _ h => h) (Or.inl ⟨by rfl, ?h7⟩) (HV.out.1.on H4.out.below HX.out.1) ?_
      case h7 =>
        intro w hSw
        obtain ⟨t0, t1⟩ := hSw
        go_simp
        with_reducible rfl
      simp only [List.setIfInBounds_toArray, List.set_cons_zero, List.set_cons_succ]
      refine' take_at (i := 8) (d := 65) (v := _) rfl rfl (by kernel_rfl) (by kernel_rfl) (by kernel_rfl) (fun _ _ _ h => h) (Or.inl ⟨by rfl, ?h8⟩) (HV.out.1.on H4.out.below HX.out.1) ?_
      case h8 =>
        intro w hSw
        obtain ⟨t0, t1⟩ := hSw
        go_simp
        with_reducible rfl
      simp only [List.setIfInBounds_toArray, List.set_cons_zero, List.set_cons_succ]
      refine' take_at (i := 9) (d := 66) (v := _) rfl rfl (by kernel_rfl) (by kernel_rfl) (by kernel_rfl) (fun _ _ _ h => h) (Or.inl ⟨by rfl, ?h9⟩) (HV.out.1.on H4.out.below HX.out.1) ?_
      case h9 =>
        intro w hSw
        obtain ⟨t0, t1⟩ := hSw
        go_simp
        with_reducible rfl
      simp only [List.setIfInBounds_toArray, List.set_cons_zero, List.set_cons_succ]
      refine' take_at (i := 10) (d := 67) (v := _) rfl rfl (by kernel_rfl) (by kernel_rfl) (by kernel_rfl) (fun _ _ _ h => h) (Or.inl ⟨by rfl, ?h10⟩) (HV.out.1.on H4.out.below HX.out.1) ?_
      case h10 =>
        intro w hSw
        obtain ⟨t0, t1⟩ := hSw
        go_simp
        with_reducible rfl
      simp only [List.setIfInBounds_toArray, List.set_cons_zero, List.set_cons_succ]
      refine wpAnyH_ready (rs := [11]) (by kernel_rfl) (by simp) ?_
      refine AllReadyH.cons (o := _) rfl (fun KQ hKQ => ?_) AllReadyH.nil
      go_simp
      refine (H4.out.move HS.out.1 HS.out.2.1 hkm x.top x.shard HX.out.2 za s6 HMV.out).mono ?_
      rintro e w5 ⟨F5, rfl, hM, hmv⟩
      have H5 : Hid (Mine16 LS W w5 q ((k : Int) + 1 + 1) s6 F5) := hM
      clear hM hmv H4
      refine hKQ.out _ _ (HV.out.1.on H5.out.below HX.out.1) (fun _ => ?_)
      clear hKQ KQ
      refine wpAnyH_done (by kernel_rfl) ?_ _
      go_wp2
      go_roundw
      case rel => exact ⟨k + 1, s6, F5, by omega, by go_num, by simpa using H5.out⟩
      case measure => simp [intOf]; omega
    · have hlt' : ¬ (k : Int) < (N : Int) := by omega
      have HKN : Hid (k ≤ 20) := (show k ≤ 20 by have := HA.out.2.2.1; omega)
      obtain ⟨z0, hz0⟩ : ∃ z, z = Tb.of s p := ⟨_, rfl⟩
      obtain ⟨v0, hv0⟩ : ∃ z, z = s.version := ⟨_, rfl⟩
      obtain ⟨er, s2, hms⟩ : ∃ er s2, Tb.move s t to' = (er, s2) := ⟨_, _, rfl⟩
      have HZ : Hid (z0 = Tb.of s p ∧ v0 = s.version ∧ Tb.move s t to' = (er, s2)) := ⟨hz0, hv0, hms⟩
      clear hz0 hv0 hms
      go_wp2_with fail
      refine (H3.out.of HS.out.1 HS.out.2.1 p HT.out.2 z0 HZ.out.1.symm).mono ?_
      rintro e w4 ⟨rfl, hM, hb⟩
      have H4 : Hid (Mine16 LS W w4 q ((k : Int) + 1) s F) := hM
      clear hM hb H3
      go_wp2_with fail
      refine (H4.out.version HS.out.1 v0 HZ.out.2.1.symm).mono ?_
      rintro e w5 ⟨rfl, hM, hb⟩
      have H5 : Hid (Mine16 LS W w5 q ((k : Int) + 1) s F) := hM
      clear hM hb H4
      go_wp2_with fail
      refine (H5.out.move HS.out.1 HS.out.2.1 (by have := HKN.out; omega) t to' HT.out.1 er s2 HZ.out.2.2).mono ?_
      rintro e w6 ⟨F6, rfl, hM, hmv⟩
      have H6 : Hid (Mine16 LS W w6 q ((k : Int) + 1 + 1) s2 F6 ∧ Tb.Fine ((k : Int) + 1) s) := ⟨hM, H5.out.fine⟩
      clear hM hmv H5
      rcases Tb.move_err s t to' with ⟨h0, hv1⟩ | ⟨h0, hs2⟩
      · have HE : Hid (er = 0 ∧ s2 = (Tb.move s t to').2 ∧ (Tb.move s t to').1 = 0) := ⟨by rw [HZ.out.2.2] at h0; exact h0, by rw [HZ.out.2.2], h0⟩
        have heb : (er != 0) = false := by simp [HE.out.1]
        have HW : Hid (s2.version = v0 + 1 ∧ Tb.of s2 ((⟨#[47]⟩ : ByteArray) ++ t) = to' ∧ Tb.of s2 ((⟨#[47]⟩ : ByteArray) ++ t ++ (⟨#[47, 120]⟩ : ByteArray)) = to' ∧ (Tb.of s2 p = z0 ∨ (Tb.of s2 p = to' ∧ Pl.goodB p.data.toList = true ∧ Tb.topT p = t))) := by
          have hmy := (Tb.may_iff.1 (Tb.own_move H6.out.2 h0).1).1
          have hwm := (Tb.whose_moved H6.out.2 h0).1
          rw [HE.out.2.1, HZ.out.2.1, HZ.out.1]
          exact ⟨hv1, by rw [Tb.of_slash hmy]; exact hwm, by rw [Tb.of_slash_x hmy]; exact hwm, Tb.of_moved H6.out.2 h0 p⟩
        have hwv : IntKind.wrap .i64 (v0 + 1) = v0 + 1 := by
          have h1 := H6.out.2.v1
          have h2 := H6.out.2.vm
          have h3 := HZ.out.2.1
          have h4 := HKN.out
          rw [IntKind.wrap_i64]
          omega
        have HSZ : Hid (((⟨#[47]⟩ : ByteArray) ++ t).size ≤ maxLen ∧ ((⟨#[47]⟩ : ByteArray) ++ t ++ (⟨#[47, 120]⟩ : ByteArray)).size ≤ maxLen) := by
          have h4 := HA.out.2.2.2.1
          have e1 : (⟨#[47]⟩ : ByteArray).size = 1 := rfl
          have e2 : (⟨#[47, 120]⟩ : ByteArray).size = 2 := rfl
          have e3 : ((⟨#[47]⟩ : ByteArray) ++ t).size = 1 + t.size := by rw [ByteArray.size_append, e1]
          have e4 : ((⟨#[47]⟩ : ByteArray) ++ t ++ (⟨#[47, 120]⟩ : ByteArray)).size = 1 + t.size + 2 := by rw [ByteArray.size_append, e3, e2]
          rw [e3, e4]
          exact ⟨(show 1 + t.size ≤ 9223372036854775807 by omega), (show 1 + t.size + 2 ≤ 9223372036854775807 by omega)⟩
        clear h0 hv1
        go_wp2_with fail
        refine (H6.out.1.version HS.out.1 (v0 + 1) HW.out.1).mono ?_
        rintro e w7 ⟨rfl, hM, hb⟩
        have H7 : Hid (Mine16 LS W w7 q ((k : Int) + 1 + 1) s2 F6) := hM
        clear hM hb
        have hvv : (v0 + 1 != v0 + 1) = false := by simp
        go_wp2_with fail
        refine (H7.out.of HS.out.1 HS.out.2.1 _ HSZ.out.1 to' HW.out.2.1).mono ?_
        rintro e w8 ⟨rfl, hM, hb⟩
        have H8 : Hid (Mine16 LS W w8 q ((k : Int) + 1 + 1) s2 F6) := hM
        clear hM hb H7 hvv
        have htt : (to' != to') = false := by simp
        go_wp2_with fail
        refine (H8.out.of HS.out.1 HS.out.2.1 _ HSZ.out.2 to' HW.out.2.2.1).mono ?_
        rintro e w9 ⟨rfl, hM, hb⟩
        have H9 : Hid (Mine16 LS W w9 q ((k : Int) + 1 + 1) s2 F6) := hM
        clear hM hb H8
        obtain ⟨z1, hz1⟩ : ∃ z, z = Tb.of s2 p := ⟨_, rfl⟩
        have HZ1 : Hid (z1 = Tb.of s2 p) := hz1
        clear hz1
        go_wp2_with fail
        refine (H9.out.of HS.out.1 HS.out.2.1 p HT.out.2 z1 HZ1.out.symm).mono ?_
        rintro e w10 ⟨rfl, hM, hb⟩
        have H10 : Hid (Mine16 LS W w10 q ((k : Int) + 1 + 1) s2 F6) := hM
        clear hM hb H9 htt
        by_cases hzz : z1 = z0
        · have hzb : (z1 == z0) = true := by simp [hzz]
          clear hzz
          go_wp2
          go_ret
          exact ⟨rfl, H10.out.below⟩
        · have hzb : (z1 == z0) = false := by simp [hzz]
          have HG : Hid (z1 = to' ∧ Pl.goodB p.data.toList = true ∧ Tb.topT p = t) := by
            rcases HW.out.2.2.2 with e | e
            · exact absurd (HZ1.out.trans e) hzz
            · exact ⟨HZ1.out.trans e.1, e.2⟩
          have hz2 : (z1 == to') = true := by simp [HG.out.1]
          obtain ⟨r, hr⟩ := (Tb.top_name HG.out.2.1).2
          have htl : Pl.top p.data.toList = t.data.toList := by rw [← HG.out.2.2]; rfl
          rw [htl] at hr
          have HR : Hid (p.data.toList = 47 :: (t.data.toList ++ r)) := hr
          have hlt3 : (t.size : Int) < (p.size : Int) := by
            have h1 := congrArg List.length hr
            rw [Pa.sz_list, List.length_cons, List.length_append, Pa.sz_list] at h1
            omega
          clear hzz hr htl
          go_wp2_with fail
          refine (H10.out.of HS.out.1 HS.out.2.1 p HT.out.2 z1 HZ1.out.symm).mono ?_
          rintro e w11 ⟨rfl, hM, hb⟩
          have H11 : Hid (Mine16 LS W w11 q ((k : Int) + 1 + 1) s2 F6) := hM
          clear hM hb H10
          have HXE : Hid (((p.extract 1 (1 + t.size)).toList == t.toList) = true) := by
            have h : (p.extract 1 (1 + t.size)).data.toList = t.data.toList := by
              rw [ByteArray.data_extract, Array.toList_extract, HR.out, List.extract_eq_take_drop, List.drop_succ_cons, List.drop_zero, Nat.add_sub_cancel_left, ← Pa.sz_list, List.take_left]
            have h2 : p.extract 1 (1 + t.size) = t := ByteArray.ext (Array.toList_inj.1 h)
            rw [h2]
            exact beq_self_eq_true _
          go_wp2
          go_ret
          exact ⟨by rw [HXE.out]; rfl, H11.out.below⟩
      · have HE : Hid (s2 = s ∧ er ≠ 0) := ⟨by rw [HZ.out.2.2] at hs2; exact hs2, by rw [HZ.out.2.2] at h0; exact h0⟩
        have heb : (er != 0) = true := by simp [HE.out.2]
        have hzb : (z0 == z0) = true := by simp
        have hvb : (v0 == v0) = true := by simp
        clear h0 hs2
        go_wp2_with fail
        refine (H6.out.1.of HS.out.1 HS.out.2.1 p HT.out.2 z0 (by rw [HE.out.1]; exact HZ.out.1.symm)).mono ?_
        rintro e w7 ⟨rfl, hM, hb⟩
        have H7 : Hid (Mine16 LS W w7 q ((k : Int) + 1 + 1) s2 F6) := hM
        clear hM hb
        go_wp2_with fail
        refine (H7.out.version HS.out.1 v0 (by rw [HE.out.1]; exact HZ.out.2.1.symm)).mono ?_
        rintro e w8 ⟨rfl, hM, hb⟩
        have H8 : Hid (Mine16 LS W w8 q ((k : Int) + 1 + 1) s2 F6) := hM
        clear hM hb
        go_wp2
        go_ret
        exact ⟨rfl, H8.out.below⟩
end Go.Proofs.YtpjdjobdbandhaaDoor
