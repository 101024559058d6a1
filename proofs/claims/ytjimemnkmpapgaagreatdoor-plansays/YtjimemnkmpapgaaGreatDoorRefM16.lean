/- The reference's Move. -/
import Derived.Test.YtjimemnkmpapgaaGreatDoorRr16
namespace Go.Proofs.YtjimemnkmpapgaaGreatDoor
open Go.RowKit

/-- What Move leaves. -/
def RmP (w : World) (q : Nat) (F : Nat → Prop) (R : Int × Tb.St) (e : Ending) (w' : World) : Prop := ∃ F', e = .returned (.int .i64 R.1) ∧ LRb w' q R.2 F' ∧ Moved w w' F F'
theorem RmP.same {w w' : World} {q : Nat} {s : Tb.St} {v : Value} {R : Int × Tb.St} {z : Int} (h : Lr16 w q s v) (hR : R = (z, s)) (hb : Below w.heap.size w w') : RmP w q (Ft16 v q) R (.returned (.int .i64 z)) w' := by
  subst hR
  exact ⟨_, rfl, ⟨v, h.later hb, rfl⟩, Moved.of_below _ hb⟩
theorem RmP.done {w w' : World} {q : Nat} {s : Tb.St} {v : Value} {F : Nat → Prop} {R : Int × Tb.St} (h : Lr16 w' q s v) (hR : R = (0, s)) (hm : Moved w w' F (Ft16 v q)) : RmP w q F R (.returned (.int .i64 0)) w' := by
  subst hR
  exact ⟨_, rfl, ⟨v, h, rfl⟩, hm⟩
set_option maxRecDepth 20000 in
set_option maxHeartbeats 8000000 in
theorem refMove_some16 (q g N c : Nat) (s : Tb.St) (m : Int) (t : ByteArray) (n : Int) (w : World) (h : Lr16 w q s (.slice (some ⟨g, 0, none⟩) N c)) (hf : Tb.Fine m s) (hm : m ≤ 2199023255552) (hN : N = s.l.length) (hNc : N ≤ c) (ht : t.size ≤ maxLen) (R : Int × Tb.St) (hR : R = Tb.move s t n) :
    Calls Tryz.prog 31 #[dptr q, .string t, .int .i64 n] w fun e w' => RmP w q (Ft16 (.slice (some ⟨g, 0, none⟩) N c) q) R e w' := by
  have Nc : (N : Int) ≤ (c : Int) := by omega
  have HNC : Hid (N ≤ c) := hNc
  clear hNc
  have H0 : Hid (Lr16 w q s (.slice (some ⟨g, 0, none⟩) N c) ∧ Tb.Fine m s ∧ R = Tb.move s t n ∧ m ≤ 2199023255552 ∧ N = s.l.length) := ⟨h, hf, hR, hm, hN⟩
  have HNO : Hid (Tb.may s t n = false → R = (1, s)) := fun e => by rw [hR]; exact Tb.move_no e
  obtain ⟨nm, hnm⟩ : ∃ z, z = Tb.isName t := ⟨_, rfl⟩
  have HNM : Hid (nm = Tb.isName t) := hnm
  have HG : Hid (Calls Tryz.prog 52 #[.string t] w fun e w' => e = .returned (.bool nm) ∧ w' = w) := by
    rw [hnm]
    exact Pa.isName_any t w ht
  obtain ⟨p, hp⟩ : ∃ p, p = Tb.pos s.l t := ⟨_, rfl⟩
  obtain ⟨hs, hhs⟩ : ∃ z, z = Tb.has s.l t := ⟨_, rfl⟩
  have hpN : p ≤ N := by rw [hp, hN]; exact Tb.pos_le _ _
  have hN50 : N ≤ 50 := by rw [hN]; exact hf.len
  have HP : Hid (p = Tb.pos s.l t ∧ hs = Tb.has s.l t) := ⟨hp, hhs⟩
  have c0 : w.cell? ⟨q, 0, none⟩ = some (.int .i64 s.shards) := h.blk.cell 0
  have c2 : w.cell? ⟨q, 2, none⟩ = some (.slice (some ⟨g, 0, none⟩) N c) := h.blk.cell 2
  clear h hf hm ht hR hnm hp hhs hN
  unfold dptr
  go_enter Tryz.func31, Tryz.ntmps31
  go_wp2_with fail
  refine HG.out.mono ?_
  rintro e w1 ⟨rfl, hw⟩
  rw [hw]
  clear hw w1 HG
  cases nm with
  | false =>
    have HR : Hid (R = (1, s)) := HNO.out (by unfold Tb.may; rw [← HNM.out]; rfl)
    go_wp2
    go_ret
    exact RmP.same H0.out.1 HR.out (Below.refl _ _)
  | true =>
  by_cases h1 : n < 0
  · have HR : Hid (R = (1, s)) := HNO.out (by
      have h : ¬ Tb.may s t n = true := fun e => by have := (Tb.may_iff.1 e).2.1; omega
      simpa using h)
    go_wp2
    go_ret
    exact RmP.same H0.out.1 HR.out (Below.refl _ _)
  by_cases h2 : s.shards ≤ n
  · have HR : Hid (R = (1, s)) := HNO.out (by
      have h : ¬ Tb.may s t n = true := fun e => by have := (Tb.may_iff.1 e).2.2; omega
      simpa using h)
    go_wp2
    go_ret
    exact RmP.same H0.out.1 HR.out (Below.refl _ _)
  have HM : Hid (Tb.may s t n = true) := Tb.may_iff.2 ⟨HNM.out.symm, by omega, by omega⟩
  go_wp2
  clear h1 h2 c0 HNO
  go_loop [7] (fun i => ∃ k : Nat, k ≤ p ∧ i = .int .i64 (k : Int)) (fun i => N + 1 - (intOf i).toNat)
  case atStart => exact ⟨0, Nat.zero_le _, rfl⟩
  case round =>
    obtain ⟨k, hk, rfl⟩ := hrel
    have k0 : (0 : Int) ≤ (k : Int) := by omega
    have hwk : IntKind.wrap .i64 ((k : Int) + 1) = (k : Int) + 1 := by rw [IntKind.wrap_i64]; omega
    go_upto_region 4 with fail
    go_cut [41] (fun z wx => z = .bool (decide (k < p)) ∧ wx = w)
    case first =>
      by_cases hlt : k < N
      · have hlt' : (k : Int) < (N : Int) := by omega
        obtain ⟨y, hy⟩ : ∃ y, s.l[k]? = some y := ⟨s.l[k]'(by rw [← H0.out.2.2.2.2]; exact hlt), List.getElem?_eq_getElem _⟩
        have hrw := H0.out.1.row
        rw [← H0.out.2.2.2.2] at hrw
        obtain ⟨r0, r1⟩ := row_at16 hrw hy
        have hlb : Op.bytesLess y.top.toList t.toList = decide (k < p) := by
          show Kq.lt y.top t = decide (k < p)
          rcases Nat.lt_or_ge k p with h4 | h4
          · rw [Tb.pos_low (by rw [← HP.out.1]; exact h4) hy]
            simp [h4]
          · rw [Tb.pos_high H0.out.2.1.rises (by rw [← HP.out.1]; exact h4) hy]
            simp
            omega
        clear hrw hy
        go_wp2
        go_meet
        case rel => exact ⟨rfl, rfl⟩
      · have hlt' : ¬ (k : Int) < (N : Int) := by omega
        have hkd : decide (k < p) = false := by simp; omega
        go_wp2
        go_meet
        case rel => exact ⟨by rw [hkd], rfl⟩
    case rest =>
      obtain ⟨rfl, hwc⟩ := hcut
      obtain rfl := hwc.symm
      by_cases hkp : k < p
      · have hkd : decide (k < p) = true := by simp [hkp]
        rw [hkd]
        clear hkd
        go_wp2
        go_round
        case rel => exact ⟨k + 1, by omega, by go_num⟩
        case measure => simp [intOf]; omega
      have hkd : decide (k < p) = false := by simp [hkp]
      rw [hkd]
      have HKP : Hid (k = p) := (show k = p by omega)
      have hkN : k ≤ N := by omega
      clear hkd hkp hk
      go_upto_region 6 with fail
      go_cut [62] (fun z wx => z = .bool hs ∧ wx = w)
      case first =>
        by_cases hlt : k < N
        · have hlt' : (k : Int) < (N : Int) := by omega
          obtain ⟨y, hy⟩ : ∃ y, s.l[k]? = some y := ⟨s.l[k]'(by rw [← H0.out.2.2.2.2]; exact hlt), List.getElem?_eq_getElem _⟩
          have hrw := H0.out.1.row
          rw [← H0.out.2.2.2.2] at hrw
          obtain ⟨r0, r1⟩ := row_at16 hrw hy
          have hlb : (y.top.toList == t.toList) = hs := by
            have h1 := Tb.pos_has (t := t) H0.out.2.1.rises
            rw [← HP.out.1, ← HP.out.2, ← HKP.out, hy] at h1
            cases e2 : hs with
            | true =>
              obtain ⟨x, hx, he⟩ := h1.1 e2
              rw [Option.some.inj hx, he]
              simp
            | false =>
              cases e : (y.top.toList == t.toList) with
              | false => rfl
              | true => rw [h1.2 ⟨y, rfl, bytes_eq e⟩] at e2; cases e2
          clear hrw hy
          go_wp2
          go_meet
          case rel => exact ⟨rfl, rfl⟩
        · have hlt' : ¬ (k : Int) < (N : Int) := by omega
          have hsf : hs = false := by
            cases e2 : hs with
            | false => rfl
            | true =>
              obtain ⟨x, hx, _⟩ := (Tb.pos_has (t := t) H0.out.2.1.rises).1 (by rw [← HP.out.2]; exact e2)
              have h5 := (List.getElem?_eq_some_iff.1 hx).1
              rw [← HP.out.1, ← HKP.out, ← H0.out.2.2.2.2] at h5
              omega
          go_wp2
          go_meet
          case rel => exact ⟨by rw [hsf], rfl⟩
      case rest =>
        obtain ⟨rfl, hwc⟩ := hcut
        obtain rfl := hwc.symm
        cases hs with
        | true =>
          obtain ⟨x, hx, hxt⟩ := (Tb.pos_has (t := t) H0.out.2.1.rises).1 HP.out.2.symm
          rw [← HP.out.1, ← HKP.out] at hx
          have hkN2 := (List.getElem?_eq_some_iff.1 hx).1
          rw [← H0.out.2.2.2.2] at hkN2
          have hkN' : (k : Int) < (N : Int) := by omega
          have hrw := H0.out.1.row
          rw [← H0.out.2.2.2.2] at hrw
          obtain ⟨r0, r1⟩ := row_at16 hrw hx
          have f1 : w.frozen? ⟨g, k * 2 + 1, none⟩ = false := by
            obtain ⟨C0, hC, _⟩ := row_whole16 hrw
            exact hC.free _
          have HE : Hid (Lr16 (w.setCell ⟨g, k * 2 + 1, none⟩ (.int .i64 n)) q ⟨s.shards, s.version, s.l.set k ⟨x.top, n⟩⟩ (.slice (some ⟨g, 0, none⟩) N c) ∧ Moved w (w.setCell ⟨g, k * 2 + 1, none⟩ (.int .i64 n)) (Ft16 (.slice (some ⟨g, 0, none⟩) N c) q) (Ft16 (.slice (some ⟨g, 0, none⟩) N c) q) ∧ R = (0, ⟨s.shards, s.version + 1, s.l.set k ⟨x.top, n⟩⟩)) := by
            have h := H0.out.1.given H0.out.2.2.2.2 hx n
            exact ⟨h.1, h.2, by rw [H0.out.2.2.1, Tb.move_at HM.out HP.out.2.symm, ← HP.out.1, ← HKP.out, hxt]⟩
          clear hx hxt hkN2 hrw
          go_upto_region 8 with fail
          clear r0 r1 f1 c2
          generalize w.setCell ⟨g, k * 2 + 1, none⟩ (.int .i64 n) = w8 at *
          have d1 : w8.cell? ⟨q, 1, none⟩ = some (.int .i64 s.version) := HE.out.1.blk.cell 1
          have f8 := HE.out.1.blk.free 1
          have hwv : IntKind.wrap .i64 (s.version + 1) = s.version + 1 := by
            have a1 := H0.out.2.1.v1
            have a2 := H0.out.2.1.vm
            have a3 := H0.out.2.2.2.1
            rw [IntKind.wrap_i64]
            omega
          have HE2 : Hid (Lr16 (w8.setCell ⟨q, 1, none⟩ (.int .i64 (s.version + 1))) q ⟨s.shards, s.version + 1, s.l.set k ⟨x.top, n⟩⟩ (.slice (some ⟨g, 0, none⟩) N c) ∧ Moved w8 (w8.setCell ⟨q, 1, none⟩ (.int .i64 (s.version + 1))) (Ft16 (.slice (some ⟨g, 0, none⟩) N c) q) (Ft16 (.slice (some ⟨g, 0, none⟩) N c) q)) := HE.out.1.vers (s.version + 1)
          go_wp2
          go_ret
          exact RmP.done HE2.out.1 HE.out.2.2 (HE.out.2.1.trans HE2.out.2)
        | false =>
          by_cases hfu : (50 : Int) ≤ (N : Int)
          · have HR : Hid (R = (2, s)) := (show R = (2, s) by rw [H0.out.2.2.1]; exact Tb.move_full HM.out HP.out.2.symm (by have := H0.out.2.2.2.2; omega))
            go_wp2
            go_ret
            exact RmP.same H0.out.1 HR.out (Below.refl _ _)
          have HR : Hid (R = (0, ⟨s.shards, s.version + 1, s.l.take k ++ ⟨t, n⟩ :: s.l.drop k⟩)) := (show R = _ by rw [H0.out.2.2.1, Tb.move_ins HM.out HP.out.2.symm (by have := H0.out.2.2.2.2; omega), ← HP.out.1, ← HKP.out])
          have kc : (k : Int) ≤ (c : Int) := by omega
          have kN : (k : Int) ≤ (N : Int) := by omega
          go_upto_region 12 with fail
          clear hfu
          have HS12 : Hid (∀ w', Below w.heap.size w w' → Smc w' (.slice (some ⟨g, 0, none⟩) k c) (s.l.take k) ∧ Smc w' (.slice (if c = k then some ⟨g, 0, none⟩ else some ⟨g, k * 2, none⟩) (N - k) (c - k)) (s.l.drop k)) := fun w' hb => by
            have hr := (H0.out.1.later hb).row
            have hm := H0.out.2.2.2.2
            rw [← hm] at hr
            refine ⟨?_, ?_⟩
            · have h := Smc.part hr hm 0 k c (by omega)
              rw [Nat.zero_mul, List.drop_zero] at h
              exact h
            · by_cases hcj : c = k
              · have hnc := HNC.out
                have hdr : s.l.drop k = [] := List.drop_eq_nil_iff.2 (by omega)
                rw [if_pos hcj, hdr]
                exact Or.inr ⟨g, 0, c - k, by rw [show N - k = 0 by omega]; rfl, fun j y hy => by simp [mcs] at hy⟩
              · rw [if_neg hcj]
                have h := Smc.part hr hm k (N - k) (c - k) (by omega)
                rw [List.take_of_length_le (by rw [List.length_drop]; omega)] at h
                exact h
          obtain ⟨T1, hT1⟩ : ∃ T1, T1 = s.l.take k := ⟨_, rfl⟩
          obtain ⟨T2, hT2⟩ : ∃ T2, T2 = s.l.drop k := ⟨_, rfl⟩
          have HTT : Hid (T1 = s.l.take k ∧ T2 = s.l.drop k ∧ T1.length + T2.length = N ∧ N ≤ 50) := ⟨hT1, hT2, by rw [hT1, hT2, List.length_take, List.length_drop]; have := H0.out.2.2.2.2; omega, hN50⟩
          obtain ⟨U1, hU1⟩ : ∃ U : Value, U = (.slice (some ⟨g, 0, none⟩) k c) := ⟨_, rfl⟩
          obtain ⟨U2, hU2⟩ : ∃ U : Value, U = (.slice (if c = k then some ⟨g, 0, none⟩ else some ⟨g, k * 2, none⟩) (N - k) (c - k)) := ⟨_, rfl⟩
          rw [← hT1, ← hT2, ← hU1, ← hU2] at HS12
          have HU : Hid (U1 = (.slice (some ⟨g, 0, none⟩) k c) ∧ U2 = (.slice (if c = k then some ⟨g, 0, none⟩ else some ⟨g, k * 2, none⟩) (N - k) (c - k))) := ⟨hU1, hU2⟩
          clear hT1 hT2 hU1 hU2
          refine wp_region_T (fun w' => w'.cell? ⟨q, 2, none⟩ = some (.slice (some ⟨g, 0, none⟩) N c)) 23 (by kernel_rfl) ?_
          have H3 : Hid (Lr16 w.drew q s (.slice (some ⟨g, 0, none⟩) N c) ∧ Below w.heap.size w w.drew) := ⟨H0.out.1.later (Below.refl _ _).drew, (Below.refl _ _).drew⟩
          have HSO : Hid (∀ w', Below w.drew.heap.size w.drew w' → Smc w' U1 T1 ∧ Smc w' U2 T2) := fun w' hb => HS12.out w' (below_drew hb)
          clear HS12 c2
          generalize w.drew = wX at *
          have HSX : Hid (∀ w', Below wX.heap.size wX w' → w'.cell? ⟨q, 2, none⟩ = some (.slice (some ⟨g, 0, none⟩) N c)) := fun w' hb => (H3.out.1.later hb).blk.cell 2
          refine' take_T (i := 0) (d := 84) (v := _) rfl rfl (by kernel_rfl) (by kernel_rfl) (by kernel_rfl) (by kernel_rfl) (by kernel_rfl) (fun _ _ _ h => h) (Or.inl ⟨by rfl, ?h0⟩) (HSX.out _ (Below.refl _ _)) ?_
          case h0 =>
            intro w hSw
            go_simp
            with_reducible rfl
          simp only [List.setIfInBounds_toArray, List.set_cons_zero, List.set_cons_succ]
          refine' take_T (i := 2) (d := 86) (v := _) rfl rfl (by kernel_rfl) (by kernel_rfl) (by kernel_rfl) (by kernel_rfl) (by kernel_rfl) (fun _ _ _ h => h) (Or.inl ⟨by rfl, ?h2⟩) (HSX.out _ (Below.refl _ _)) ?_
          case h2 =>
            intro w hSw
            go_simp
            with_reducible rfl
          simp only [List.setIfInBounds_toArray, List.set_cons_zero, List.set_cons_succ]
          refine' take_T (i := 3) (d := 87) (v := _) rfl rfl (by kernel_rfl) (by kernel_rfl) (by kernel_rfl) (by kernel_rfl) (by kernel_rfl) (fun _ _ _ h => h) (Or.inl ⟨by rfl, ?h3⟩) (HSX.out _ (Below.refl _ _)) ?_
          case h3 =>
            intro w hSw
            go_simp
            with_reducible rfl
          simp only [List.setIfInBounds_toArray, List.set_cons_zero, List.set_cons_succ]
          refine' take_T (i := 4) (d := 88) (v := _) rfl rfl (by kernel_rfl) (by kernel_rfl) (by kernel_rfl) (by kernel_rfl) (by kernel_rfl) (fun _ _ _ h => h) (Or.inl ⟨by rfl, ?h4⟩) (HSX.out _ (Below.refl _ _)) ?_
          case h4 =>
            intro w hSw
            go_simp
            with_reducible rfl
          simp only [List.setIfInBounds_toArray, List.set_cons_zero, List.set_cons_succ]
          refine' take_T (i := 5) (d := 89) (v := _) rfl rfl (by kernel_rfl) (by kernel_rfl) (by kernel_rfl) (by kernel_rfl) (by kernel_rfl) (fun _ _ _ h => h) (Or.inl ⟨by rfl, ?h5⟩) (HSX.out _ (Below.refl _ _)) ?_
          case h5 =>
            intro w hSw
            go_simp
            with_reducible rfl
          simp only [List.setIfInBounds_toArray, List.set_cons_zero, List.set_cons_succ]
          refine' take_T (i := 6) (d := 90) (v := _) rfl rfl (by kernel_rfl) (by kernel_rfl) (by kernel_rfl) (by kernel_rfl) (by kernel_rfl) (fun _ _ _ h => h) (Or.inl ⟨by rfl, ?h6⟩) (HSX.out _ (Below.refl _ _)) ?_
          case h6 =>
            intro w hSw
            go_simp
            with_reducible rfl
          simp only [List.setIfInBounds_toArray, List.set_cons_zero, List.set_cons_succ]
          refine' take_T (i := 7) (d := 91) (v := _) rfl rfl (by kernel_rfl) (by kernel_rfl) (by kernel_rfl) (by kernel_rfl) (by kernel_rfl) (fun _ _ _ h => h) (Or.inl ⟨by rfl, ?h7⟩) (HSX.out _ (Below.refl _ _)) ?_
          case h7 =>
            intro w hSw
            go_simp
            with_reducible rfl
          simp only [List.setIfInBounds_toArray, List.set_cons_zero, List.set_cons_succ]
          refine' take_T (i := 9) (d := 93) (v := _) rfl rfl (by kernel_rfl) (by kernel_rfl) (by kernel_rfl) (by kernel_rfl) (by kernel_rfl) (fun _ _ _ h => h) (Or.inl ⟨by rfl, ?h9⟩) (HSX.out _ (Below.refl _ _)) ?_
          case h9 =>
            intro w hSw
            go_simp
            with_reducible rfl
          simp only [List.setIfInBounds_toArray, List.set_cons_zero, List.set_cons_succ]
          refine' take_T (i := 10) (d := 94) (v := _) rfl rfl (by kernel_rfl) (by kernel_rfl) (by kernel_rfl) (by kernel_rfl) (by kernel_rfl) (fun _ _ _ h => h) (Or.inl ⟨by rfl, ?h10⟩) (HSX.out _ (Below.refl _ _)) ?_
          case h10 =>
            intro w hSw
            go_simp
            with_reducible rfl
          simp only [List.setIfInBounds_toArray, List.set_cons_zero, List.set_cons_succ]
          refine' take_T (i := 11) (d := 95) (v := _) rfl rfl (by kernel_rfl) (by kernel_rfl) (by kernel_rfl) (by kernel_rfl) (by kernel_rfl) (fun _ _ _ h => h) (Or.inl ⟨by rfl, ?h11⟩) (HSX.out _ (Below.refl _ _)) ?_
          case h11 =>
            intro w hSw
            go_simp
            with_reducible rfl
          simp only [List.setIfInBounds_toArray, List.set_cons_zero, List.set_cons_succ]
          refine' take_T (i := 14) (d := 98) (v := _) rfl rfl (by kernel_rfl) (by kernel_rfl) (by kernel_rfl) (by kernel_rfl) (by kernel_rfl) (fun _ _ _ h => h) (Or.inl ⟨by rfl, ?h14⟩) (HSX.out _ (Below.refl _ _)) ?_
          case h14 =>
            intro w hSw
            go_simp
            with_reducible rfl
          simp only [List.setIfInBounds_toArray, List.set_cons_zero, List.set_cons_succ]
          refine' take_T (i := 15) (d := 99) (v := _) rfl rfl (by kernel_rfl) (by kernel_rfl) (by kernel_rfl) (by kernel_rfl) (by kernel_rfl) (fun _ _ _ h => h) (Or.inl ⟨by rfl, ?h15⟩) (HSX.out _ (Below.refl _ _)) ?_
          case h15 =>
            intro w hSw
            go_simp
            with_reducible rfl
          simp only [List.setIfInBounds_toArray, List.set_cons_zero, List.set_cons_succ]
          refine' take_T (i := 16) (d := 100) (v := _) rfl rfl (by kernel_rfl) (by kernel_rfl) (by kernel_rfl) (by kernel_rfl) (by kernel_rfl) (fun _ _ _ h => h) (Or.inl ⟨by rfl, ?h16⟩) (HSX.out _ (Below.refl _ _)) ?_
          case h16 =>
            intro w hSw
            go_simp
            with_reducible rfl
          simp only [List.setIfInBounds_toArray, List.set_cons_zero, List.set_cons_succ]
          refine' take_T (i := 17) (d := 101) (v := _) rfl rfl (by kernel_rfl) (by kernel_rfl) (by kernel_rfl) (by kernel_rfl) (by kernel_rfl) (fun _ _ _ h => h) (Or.inl ⟨by rfl, ?h17⟩) (HSX.out _ (Below.refl _ _)) ?_
          case h17 =>
            intro w hSw
            go_simp
            with_reducible rfl
          simp only [List.setIfInBounds_toArray, List.set_cons_zero, List.set_cons_succ]
          refine' take_T (i := 18) (d := 102) (v := _) rfl rfl (by kernel_rfl) (by kernel_rfl) (by kernel_rfl) (by kernel_rfl) (by kernel_rfl) (fun _ _ _ h => h) (Or.inl ⟨by rfl, ?h18⟩) (HSX.out _ (Below.refl _ _)) ?_
          case h18 =>
            intro w hSw
            go_simp
            with_reducible rfl
          simp only [List.setIfInBounds_toArray, List.set_cons_zero, List.set_cons_succ]
          refine' take_T (i := 19) (d := 103) (v := _) rfl rfl (by kernel_rfl) (by kernel_rfl) (by kernel_rfl) (by kernel_rfl) (by kernel_rfl) (fun _ _ _ h => h) (Or.inl ⟨by rfl, ?h19⟩) (HSX.out _ (Below.refl _ _)) ?_
          case h19 =>
            intro w hSw
            go_simp
            with_reducible rfl
          simp only [List.setIfInBounds_toArray, List.set_cons_zero, List.set_cons_succ]
          rw [← HU.out.1, ← HU.out.2]
          have HBX : Hid (Below wX.heap.size wX wX) := Below.refl _ _
          refine wpAnyT_ready (rs := [1, 12]) (by kernel_rfl) (by simp) ?_
          refine AllReadyT.cons (o := _) rfl (fun KQ hKQ => ?_) (AllReadyT.cons (o := _) rfl (fun KQ hKQ => ?_) AllReadyT.nil)
          · as_aux_lemma =>
              go_simp
              obtain ⟨nb, hnb⟩ : ∃ z, z = wX.heap.size := ⟨_, rfl⟩
              rw [← hnb]
              have H4 : Hid (Below wX.heap.size wX (wX.alloc (.cells #[] 109)) ∧ (wX.alloc (.cells #[] 109)).ownsRow wX.heap.size 109 2 (.slice (some ⟨nb, 0, none⟩) 0 0) ([] : List Tb.Mv).length (mcs []) ∧ wX.heap.size ≤ nb ∧ Below wX.heap.size wX (wX.alloc (.cells #[] 109))) := by
                rw [hnb]
                exact ⟨HBX.out.alloc HBX.out.size _, World.ownsRow_made wX #[] 0 HBX.out.size (by decide) rfl, Nat.le_refl _, (Below.refl _ _).alloc (Nat.le_refl _) _⟩
              clear hnb
              generalize wX.alloc (.cells #[] 109) = w4 at *
              refine hKQ.out _ _ (fun _ => HSX.out _ H4.out.1) ?_
              clear hKQ KQ
              refine wpAnyT_ready (rs := [8, 12]) (by kernel_rfl) (by simp) ?_
              refine AllReadyT.cons (o := _) rfl (fun KQ hKQ => ?_) (AllReadyT.cons (o := _) rfl (fun KQ hKQ => ?_) AllReadyT.nil)
              · refine wp_mcd16 infoMr Tryz.underlying103 _ _ rfl 92 rfl wX.heap.size (.slice (some ⟨nb, 0, none⟩) 0 0) U1 [] T1 w4 rfl rfl H4.out.2.1 H4.out.1.size (HSO.out _ H4.out.1).1 (by have := HTT.out; simp only [List.length_nil]; omega) ?_
                intro v5 w5 hr5 hb5 hg5 hv5
                have H5 : Hid (Below wX.heap.size wX w5 ∧ w5.ownsRow wX.heap.size 109 2 v5 T1.length (mcs T1)) := ⟨H4.out.1.trans hb5, hr5⟩
                clear hr5 hb5 hg5 hv5 H4
                refine hKQ.out _ _ (fun _ => HSX.out _ H5.out.1) ?_
                clear hKQ KQ
                simp only [List.setIfInBounds_toArray, List.set_cons_zero, List.set_cons_succ]
                refine wpAnyT_ready (rs := [12]) (by kernel_rfl) (by simp) ?_
                refine AllReadyT.cons (o := _) rfl (fun KQ hKQ => ?_) AllReadyT.nil
                go_simp
                obtain ⟨sb, hsb⟩ : ∃ z, z = w5.heap.size := ⟨_, rfl⟩
                rw [← hsb]
                have H6 : Hid (Below wX.heap.size wX (w5.alloc (.cells #[.string t, .int .i64 n] 109)) ∧ Cb (w5.alloc (.cells #[.string t, .int .i64 n] 109)) sb (mc ⟨t, n⟩) 109 ∧ w5.heap.size ≤ sb) := by
                  rw [hsb]
                  exact ⟨H5.out.1.alloc H5.out.1.size _, Cb.made w5 (mc ⟨t, n⟩) _, Nat.le_refl _⟩
                clear hsb
                have H66 : Hid (Below wX.heap.size wX (w5.alloc (.cells #[.string t, .int .i64 n] 109)) ∧ (w5.alloc (.cells #[.string t, .int .i64 n] 109)).ownsRow wX.heap.size 109 2 v5 T1.length (mcs T1) ∧ Cb (w5.alloc (.cells #[.string t, .int .i64 n] 109)) sb (mc ⟨t, n⟩) 109) := ⟨H6.out.1, H5.out.2.alloc _, H6.out.2.1⟩
                clear H5 H6
                generalize (w5.alloc (.cells #[.string t, .int .i64 n] 109)) = w6 at *
                refine hKQ.out _ _ (fun _ => HSX.out _ H66.out.1) ?_
                clear hKQ KQ
                refine wpAnyT_ready (rs := [13]) (by kernel_rfl) (by simp) ?_
                refine AllReadyT.cons (o := _) rfl (fun KQ hKQ => ?_) AllReadyT.nil
                refine wp_mcd16 infoMr Tryz.underlying103 _ _ rfl 97 rfl wX.heap.size v5 (.slice (some ⟨sb, 0, none⟩) 1 1) T1 [(⟨t, n⟩ : Tb.Mv)] w6 rfl rfl H66.out.2.1 H66.out.1.size (Smc.one H66.out.2.2) (by have := HTT.out; simp only [List.length_singleton]; omega) ?_
                intro v7 w7 hr7 hb7 hg7 hv7
                have H7 : Hid (Below wX.heap.size wX w7 ∧ w7.ownsRow wX.heap.size 109 2 v7 (T1 ++ [(⟨t, n⟩ : Tb.Mv)]).length (mcs (T1 ++ [(⟨t, n⟩ : Tb.Mv)]))) := ⟨H66.out.1.trans hb7, hr7⟩
                clear hr7 hb7 hg7 hv7 H66
                refine hKQ.out _ _ (fun _ => HSX.out _ H7.out.1) ?_
                clear hKQ KQ
                simp only [List.setIfInBounds_toArray, List.set_cons_zero, List.set_cons_succ]
                refine wpAnyT_ready (rs := [20]) (by kernel_rfl) (by simp) ?_
                refine AllReadyT.cons (o := _) rfl (fun KQ hKQ => ?_) AllReadyT.nil
                refine wp_mcd16 infoMr Tryz.underlying103 _ _ rfl 104 rfl wX.heap.size v7 U2 (T1 ++ [(⟨t, n⟩ : Tb.Mv)]) T2 w7 rfl rfl H7.out.2 H7.out.1.size (HSO.out _ H7.out.1).2 (by have := HTT.out; simp only [List.length_append, List.length_singleton]; omega) ?_
                intro v8 w8 hr8 hb8 hg8 hv8
                have HLQ : Hid (T1 ++ [(⟨t, n⟩ : Tb.Mv)] ++ T2 = s.l.take k ++ (⟨t, n⟩ : Tb.Mv) :: s.l.drop k) := (show T1 ++ [(⟨t, n⟩ : Tb.Mv)] ++ T2 = s.l.take k ++ (⟨t, n⟩ : Tb.Mv) :: s.l.drop k by rw [HTT.out.1, HTT.out.2.1]; simp)
                have H8 : Hid (Below wX.heap.size wX w8 ∧ Lr16 (w8.setCell ⟨q, 2, none⟩ v8) q ⟨s.shards, s.version, s.l.take k ++ ⟨t, n⟩ :: s.l.drop k⟩ v8 ∧ Moved wX (w8.setCell ⟨q, 2, none⟩ v8) (Ft16 (.slice (some ⟨g, 0, none⟩) N c) q) (Ft16 v8 q)) := by
                  have hb := H7.out.1.trans hb8
                  rw [HLQ.out] at hr8
                  have h := H3.out.1.put hb hr8
                  exact ⟨hb, h.1, h.2⟩
                obtain ⟨a8, c8, e8, j1, j2⟩ := row_form hr8
                obtain ⟨N8, hN8⟩ : ∃ z, z = (T1 ++ [(⟨t, n⟩ : Tb.Mv)] ++ T2).length := ⟨_, rfl⟩
                rw [← hN8] at e8
                subst e8
                clear hr8 hb8 hg8 hv8 j1 j2 hN8 H7
                refine hKQ.out _ _ (fun _ => HSX.out _ H8.out.1) ?_
                clear hKQ KQ
                simp only [List.setIfInBounds_toArray, List.set_cons_zero, List.set_cons_succ]
                refine' take_T (i := 21) (d := 105) (v := _) rfl rfl (by kernel_rfl) (by kernel_rfl) (by kernel_rfl) (by kernel_rfl) (by kernel_rfl) (fun _ _ _ h => h) (Or.inl ⟨by rfl, ?h21⟩) (HSX.out _ H8.out.1) ?_
                case h21 =>
                  intro w hSw
                  go_simp
                  with_reducible rfl
                simp only [List.setIfInBounds_toArray, List.set_cons_zero, List.set_cons_succ]
                refine' take_T (i := 22) (d := 106) (v := _) rfl rfl (by kernel_rfl) (by kernel_rfl) (by kernel_rfl) (by kernel_rfl) (by kernel_rfl) (fun _ _ _ h => h) (Or.inl ⟨by rfl, ?h22⟩) (HSX.out _ H8.out.1) ?_
                case h22 =>
                  intro w hSw
                  go_simp
                  with_reducible rfl
                simp only [List.setIfInBounds_toArray, List.set_cons_zero, List.set_cons_succ]
                refine wpAnyT_ready (rs := [23]) (by kernel_rfl) (by simp) ?_
                refine AllReadyT.cons (o := _) rfl (fun KQ hKQ => ?_) AllReadyT.nil
                have d2 : w8.cell? ⟨q, 2, none⟩ = some (.slice (some ⟨g, 0, none⟩) N c) := HSX.out _ H8.out.1
                have f2 : w8.frozen? ⟨q, 2, none⟩ = false := (H3.out.1.later H8.out.1).blk.free 2
                go_simp
                clear d2 f2
                have HE : Hid (Lr16 (w8.setCell ⟨q, 2, none⟩ (.slice a8 N8 c8)) q ⟨s.shards, s.version, s.l.take k ++ ⟨t, n⟩ :: s.l.drop k⟩ (.slice a8 N8 c8) ∧ Moved w (w8.setCell ⟨q, 2, none⟩ (.slice a8 N8 c8)) (Ft16 (.slice (some ⟨g, 0, none⟩) N c) q) (Ft16 (.slice a8 N8 c8) q)) := ⟨H8.out.2.1, (Moved.of_below _ H3.out.2).trans H8.out.2.2⟩
                clear H8 HSX HSO H3
                generalize w8.setCell ⟨q, 2, none⟩ (.slice a8 N8 c8) = w9 at *
                refine hKQ.out _ _ (fun h => absurd rfl h) ?_
                clear hKQ KQ
                refine wpAnyT_done (by kernel_rfl) ?_ _
                have d1 : w9.cell? ⟨q, 1, none⟩ = some (.int .i64 s.version) := HE.out.1.blk.cell 1
                have f8 := HE.out.1.blk.free 1
                have hwv : IntKind.wrap .i64 (s.version + 1) = s.version + 1 := by
                  have a1 := H0.out.2.1.v1
                  have a2 := H0.out.2.1.vm
                  have a3 := H0.out.2.2.2.1
                  rw [IntKind.wrap_i64]
                  omega
                have HE2 : Hid (Lr16 (w9.setCell ⟨q, 1, none⟩ (.int .i64 (s.version + 1))) q ⟨s.shards, s.version + 1, s.l.take k ++ ⟨t, n⟩ :: s.l.drop k⟩ (.slice a8 N8 c8) ∧ Moved w9 (w9.setCell ⟨q, 1, none⟩ (.int .i64 (s.version + 1))) (Ft16 (.slice a8 N8 c8) q) (Ft16 (.slice a8 N8 c8) q)) := HE.out.1.vers (s.version + 1)
                go_wp2
                go_ret
                exact RmP.done HE2.out.1 HR.out (HE.out.2.trans HE2.out.2)
              · go_simp
                obtain ⟨sb, hsb⟩ : ∃ z, z = w4.heap.size := ⟨_, rfl⟩
                rw [← hsb]
                have H5 : Hid (Below wX.heap.size wX (w4.alloc (.cells #[.string t, .int .i64 n] 109)) ∧ Cb (w4.alloc (.cells #[.string t, .int .i64 n] 109)) sb (mc ⟨t, n⟩) 109 ∧ w4.heap.size ≤ sb) := by
                  rw [hsb]
                  exact ⟨H4.out.1.alloc H4.out.1.size _, Cb.made w4 (mc ⟨t, n⟩) _, Nat.le_refl _⟩
                clear hsb
                have H55 : Hid (Below wX.heap.size wX (w4.alloc (.cells #[.string t, .int .i64 n] 109)) ∧ (w4.alloc (.cells #[.string t, .int .i64 n] 109)).ownsRow wX.heap.size 109 2 (.slice (some ⟨nb, 0, none⟩) 0 0) ([] : List Tb.Mv).length (mcs []) ∧ Cb (w4.alloc (.cells #[.string t, .int .i64 n] 109)) sb (mc ⟨t, n⟩) 109 ∧ nb ≠ sb) := ⟨H5.out.1, H4.out.2.1.alloc _, H5.out.2.1, fun e => by have h1 := (H4.out.2.1.lt nb rfl).2; have h2 := H5.out.2.2; omega⟩
                clear H4 H5
                generalize (w4.alloc (.cells #[.string t, .int .i64 n] 109)) = w5 at *
                refine hKQ.out _ _ (fun _ => HSX.out _ H55.out.1) ?_
                clear hKQ KQ
                refine wpAnyT_ready (rs := [8]) (by kernel_rfl) (by simp) ?_
                refine AllReadyT.cons (o := _) rfl (fun KQ hKQ => ?_) AllReadyT.nil
                refine wp_mcd16 infoMr Tryz.underlying103 _ _ rfl 92 rfl wX.heap.size (.slice (some ⟨nb, 0, none⟩) 0 0) U1 [] T1 w5 rfl rfl H55.out.2.1 H55.out.1.size (HSO.out _ H55.out.1).1 (by have := HTT.out; simp only [List.length_nil]; omega) ?_
                intro v5 w6 hr6 hb6 hg6 hv6
                have H66 : Hid (Below wX.heap.size wX w6 ∧ w6.ownsRow wX.heap.size 109 2 v5 T1.length (mcs T1) ∧ Cb w6 sb (mc ⟨t, n⟩) 109) := ⟨H55.out.1.trans hb6, hr6, H55.out.2.2.1.keep (hg6.block sb H55.out.2.2.1.lt (fun e => H55.out.2.2.2 (by simpa [Value.ownBlock] using e.symm)))⟩
                clear hr6 hb6 hg6 hv6 H55
                refine hKQ.out _ _ (fun _ => HSX.out _ H66.out.1) ?_
                clear hKQ KQ
                simp only [List.setIfInBounds_toArray, List.set_cons_zero, List.set_cons_succ]
                refine wpAnyT_ready (rs := [13]) (by kernel_rfl) (by simp) ?_
                refine AllReadyT.cons (o := _) rfl (fun KQ hKQ => ?_) AllReadyT.nil
                refine wp_mcd16 infoMr Tryz.underlying103 _ _ rfl 97 rfl wX.heap.size v5 (.slice (some ⟨sb, 0, none⟩) 1 1) T1 [(⟨t, n⟩ : Tb.Mv)] w6 rfl rfl H66.out.2.1 H66.out.1.size (Smc.one H66.out.2.2) (by have := HTT.out; simp only [List.length_singleton]; omega) ?_
                intro v7 w7 hr7 hb7 hg7 hv7
                have H7 : Hid (Below wX.heap.size wX w7 ∧ w7.ownsRow wX.heap.size 109 2 v7 (T1 ++ [(⟨t, n⟩ : Tb.Mv)]).length (mcs (T1 ++ [(⟨t, n⟩ : Tb.Mv)]))) := ⟨H66.out.1.trans hb7, hr7⟩
                clear hr7 hb7 hg7 hv7 H66
                refine hKQ.out _ _ (fun _ => HSX.out _ H7.out.1) ?_
                clear hKQ KQ
                simp only [List.setIfInBounds_toArray, List.set_cons_zero, List.set_cons_succ]
                refine wpAnyT_ready (rs := [20]) (by kernel_rfl) (by simp) ?_
                refine AllReadyT.cons (o := _) rfl (fun KQ hKQ => ?_) AllReadyT.nil
                refine wp_mcd16 infoMr Tryz.underlying103 _ _ rfl 104 rfl wX.heap.size v7 U2 (T1 ++ [(⟨t, n⟩ : Tb.Mv)]) T2 w7 rfl rfl H7.out.2 H7.out.1.size (HSO.out _ H7.out.1).2 (by have := HTT.out; simp only [List.length_append, List.length_singleton]; omega) ?_
                intro v8 w8 hr8 hb8 hg8 hv8
                have HLQ : Hid (T1 ++ [(⟨t, n⟩ : Tb.Mv)] ++ T2 = s.l.take k ++ (⟨t, n⟩ : Tb.Mv) :: s.l.drop k) := (show T1 ++ [(⟨t, n⟩ : Tb.Mv)] ++ T2 = s.l.take k ++ (⟨t, n⟩ : Tb.Mv) :: s.l.drop k by rw [HTT.out.1, HTT.out.2.1]; simp)
                have H8 : Hid (Below wX.heap.size wX w8 ∧ Lr16 (w8.setCell ⟨q, 2, none⟩ v8) q ⟨s.shards, s.version, s.l.take k ++ ⟨t, n⟩ :: s.l.drop k⟩ v8 ∧ Moved wX (w8.setCell ⟨q, 2, none⟩ v8) (Ft16 (.slice (some ⟨g, 0, none⟩) N c) q) (Ft16 v8 q)) := by
                  have hb := H7.out.1.trans hb8
                  rw [HLQ.out] at hr8
                  have h := H3.out.1.put hb hr8
                  exact ⟨hb, h.1, h.2⟩
                obtain ⟨a8, c8, e8, j1, j2⟩ := row_form hr8
                obtain ⟨N8, hN8⟩ : ∃ z, z = (T1 ++ [(⟨t, n⟩ : Tb.Mv)] ++ T2).length := ⟨_, rfl⟩
                rw [← hN8] at e8
                subst e8
                clear hr8 hb8 hg8 hv8 j1 j2 hN8 H7
                refine hKQ.out _ _ (fun _ => HSX.out _ H8.out.1) ?_
                clear hKQ KQ
                simp only [List.setIfInBounds_toArray, List.set_cons_zero, List.set_cons_succ]
                refine' take_T (i := 21) (d := 105) (v := _) rfl rfl (by kernel_rfl) (by kernel_rfl) (by kernel_rfl) (by kernel_rfl) (by kernel_rfl) (fun _ _ _ h => h) (Or.inl ⟨by rfl, ?h21⟩) (HSX.out _ H8.out.1) ?_
                case h21 =>
                  intro w hSw
                  go_simp
                  with_reducible rfl
                simp only [List.setIfInBounds_toArray, List.set_cons_zero, List.set_cons_succ]
                refine' take_T (i := 22) (d := 106) (v := _) rfl rfl (by kernel_rfl) (by kernel_rfl) (by kernel_rfl) (by kernel_rfl) (by kernel_rfl) (fun _ _ _ h => h) (Or.inl ⟨by rfl, ?h22⟩) (HSX.out _ H8.out.1) ?_
                case h22 =>
                  intro w hSw
                  go_simp
                  with_reducible rfl
                simp only [List.setIfInBounds_toArray, List.set_cons_zero, List.set_cons_succ]
                refine wpAnyT_ready (rs := [23]) (by kernel_rfl) (by simp) ?_
                refine AllReadyT.cons (o := _) rfl (fun KQ hKQ => ?_) AllReadyT.nil
                have d2 : w8.cell? ⟨q, 2, none⟩ = some (.slice (some ⟨g, 0, none⟩) N c) := HSX.out _ H8.out.1
                have f2 : w8.frozen? ⟨q, 2, none⟩ = false := (H3.out.1.later H8.out.1).blk.free 2
                go_simp
                clear d2 f2
                have HE : Hid (Lr16 (w8.setCell ⟨q, 2, none⟩ (.slice a8 N8 c8)) q ⟨s.shards, s.version, s.l.take k ++ ⟨t, n⟩ :: s.l.drop k⟩ (.slice a8 N8 c8) ∧ Moved w (w8.setCell ⟨q, 2, none⟩ (.slice a8 N8 c8)) (Ft16 (.slice (some ⟨g, 0, none⟩) N c) q) (Ft16 (.slice a8 N8 c8) q)) := ⟨H8.out.2.1, (Moved.of_below _ H3.out.2).trans H8.out.2.2⟩
                clear H8 HSX HSO H3
                generalize w8.setCell ⟨q, 2, none⟩ (.slice a8 N8 c8) = w9 at *
                refine hKQ.out _ _ (fun h => absurd rfl h) ?_
                clear hKQ KQ
                refine wpAnyT_done (by kernel_rfl) ?_ _
                have d1 : w9.cell? ⟨q, 1, none⟩ = some (.int .i64 s.version) := HE.out.1.blk.cell 1
                have f8 := HE.out.1.blk.free 1
                have hwv : IntKind.wrap .i64 (s.version + 1) = s.version + 1 := by
                  have a1 := H0.out.2.1.v1
                  have a2 := H0.out.2.1.vm
                  have a3 := H0.out.2.2.2.1
                  rw [IntKind.wrap_i64]
                  omega
                have HE2 : Hid (Lr16 (w9.setCell ⟨q, 1, none⟩ (.int .i64 (s.version + 1))) q ⟨s.shards, s.version + 1, s.l.take k ++ ⟨t, n⟩ :: s.l.drop k⟩ (.slice a8 N8 c8) ∧ Moved w9 (w9.setCell ⟨q, 1, none⟩ (.int .i64 (s.version + 1))) (Ft16 (.slice a8 N8 c8) q) (Ft16 (.slice a8 N8 c8) q)) := HE.out.1.vers (s.version + 1)
                go_wp2
                go_ret
                exact RmP.done HE2.out.1 HR.out (HE.out.2.trans HE2.out.2)
          · as_aux_lemma =>
              go_simp
              obtain ⟨sb, hsb⟩ : ∃ z, z = wX.heap.size := ⟨_, rfl⟩
              rw [← hsb]
              have H4 : Hid (Below wX.heap.size wX (wX.alloc (.cells #[.string t, .int .i64 n] 109)) ∧ Cb (wX.alloc (.cells #[.string t, .int .i64 n] 109)) sb (mc ⟨t, n⟩) 109 ∧ wX.heap.size ≤ sb) := by
                rw [hsb]
                exact ⟨HBX.out.alloc HBX.out.size _, Cb.made wX (mc ⟨t, n⟩) _, Nat.le_refl _⟩
              clear hsb
              have H44 : Hid (Below wX.heap.size wX (wX.alloc (.cells #[.string t, .int .i64 n] 109)) ∧ Cb (wX.alloc (.cells #[.string t, .int .i64 n] 109)) sb (mc ⟨t, n⟩) 109) := ⟨H4.out.1, H4.out.2.1⟩
              clear H4
              generalize (wX.alloc (.cells #[.string t, .int .i64 n] 109)) = w4 at *
              refine hKQ.out _ _ (fun _ => HSX.out _ H44.out.1) ?_
              clear hKQ KQ
              refine wpAnyT_ready (rs := [1]) (by kernel_rfl) (by simp) ?_
              refine AllReadyT.cons (o := _) rfl (fun KQ hKQ => ?_) AllReadyT.nil
              go_simp
              obtain ⟨nb, hnb⟩ : ∃ z, z = w4.heap.size := ⟨_, rfl⟩
              rw [← hnb]
              have H5 : Hid (Below wX.heap.size wX (w4.alloc (.cells #[] 109)) ∧ (w4.alloc (.cells #[] 109)).ownsRow wX.heap.size 109 2 (.slice (some ⟨nb, 0, none⟩) 0 0) ([] : List Tb.Mv).length (mcs []) ∧ w4.heap.size ≤ nb ∧ Below w4.heap.size w4 (w4.alloc (.cells #[] 109))) := by
                rw [hnb]
                exact ⟨H44.out.1.alloc H44.out.1.size _, World.ownsRow_made w4 #[] 0 H44.out.1.size (by decide) rfl, Nat.le_refl _, (Below.refl _ _).alloc (Nat.le_refl _) _⟩
              clear hnb
              generalize w4.alloc (.cells #[] 109) = w5 at *
              refine hKQ.out _ _ (fun _ => HSX.out _ H5.out.1) ?_
              clear hKQ KQ
              have H55 : Hid (Below wX.heap.size wX w5 ∧ w5.ownsRow wX.heap.size 109 2 (.slice (some ⟨nb, 0, none⟩) 0 0) ([] : List Tb.Mv).length (mcs []) ∧ Cb w5 sb (mc ⟨t, n⟩) 109 ∧ nb ≠ sb) := ⟨H5.out.1, H5.out.2.1, H44.out.2.below H5.out.2.2.2, fun e => by have h1 := H44.out.2.lt; have h2 := H5.out.2.2.1; omega⟩
              clear H44 H5
              refine wpAnyT_ready (rs := [8]) (by kernel_rfl) (by simp) ?_
              refine AllReadyT.cons (o := _) rfl (fun KQ hKQ => ?_) AllReadyT.nil
              refine wp_mcd16 infoMr Tryz.underlying103 _ _ rfl 92 rfl wX.heap.size (.slice (some ⟨nb, 0, none⟩) 0 0) U1 [] T1 w5 rfl rfl H55.out.2.1 H55.out.1.size (HSO.out _ H55.out.1).1 (by have := HTT.out; simp only [List.length_nil]; omega) ?_
              intro v5 w6 hr6 hb6 hg6 hv6
              have H66 : Hid (Below wX.heap.size wX w6 ∧ w6.ownsRow wX.heap.size 109 2 v5 T1.length (mcs T1) ∧ Cb w6 sb (mc ⟨t, n⟩) 109) := ⟨H55.out.1.trans hb6, hr6, H55.out.2.2.1.keep (hg6.block sb H55.out.2.2.1.lt (fun e => H55.out.2.2.2 (by simpa [Value.ownBlock] using e.symm)))⟩
              clear hr6 hb6 hg6 hv6 H55
              refine hKQ.out _ _ (fun _ => HSX.out _ H66.out.1) ?_
              clear hKQ KQ
              simp only [List.setIfInBounds_toArray, List.set_cons_zero, List.set_cons_succ]
              refine wpAnyT_ready (rs := [13]) (by kernel_rfl) (by simp) ?_
              refine AllReadyT.cons (o := _) rfl (fun KQ hKQ => ?_) AllReadyT.nil
              refine wp_mcd16 infoMr Tryz.underlying103 _ _ rfl 97 rfl wX.heap.size v5 (.slice (some ⟨sb, 0, none⟩) 1 1) T1 [(⟨t, n⟩ : Tb.Mv)] w6 rfl rfl H66.out.2.1 H66.out.1.size (Smc.one H66.out.2.2) (by have := HTT.out; simp only [List.length_singleton]; omega) ?_
              intro v7 w7 hr7 hb7 hg7 hv7
              have H7 : Hid (Below wX.heap.size wX w7 ∧ w7.ownsRow wX.heap.size 109 2 v7 (T1 ++ [(⟨t, n⟩ : Tb.Mv)]).length (mcs (T1 ++ [(⟨t, n⟩ : Tb.Mv)]))) := ⟨H66.out.1.trans hb7, hr7⟩
              clear hr7 hb7 hg7 hv7 H66
              refine hKQ.out _ _ (fun _ => HSX.out _ H7.out.1) ?_
              clear hKQ KQ
              simp only [List.setIfInBounds_toArray, List.set_cons_zero, List.set_cons_succ]
              refine wpAnyT_ready (rs := [20]) (by kernel_rfl) (by simp) ?_
              refine AllReadyT.cons (o := _) rfl (fun KQ hKQ => ?_) AllReadyT.nil
              refine wp_mcd16 infoMr Tryz.underlying103 _ _ rfl 104 rfl wX.heap.size v7 U2 (T1 ++ [(⟨t, n⟩ : Tb.Mv)]) T2 w7 rfl rfl H7.out.2 H7.out.1.size (HSO.out _ H7.out.1).2 (by have := HTT.out; simp only [List.length_append, List.length_singleton]; omega) ?_
              intro v8 w8 hr8 hb8 hg8 hv8
              have HLQ : Hid (T1 ++ [(⟨t, n⟩ : Tb.Mv)] ++ T2 = s.l.take k ++ (⟨t, n⟩ : Tb.Mv) :: s.l.drop k) := (show T1 ++ [(⟨t, n⟩ : Tb.Mv)] ++ T2 = s.l.take k ++ (⟨t, n⟩ : Tb.Mv) :: s.l.drop k by rw [HTT.out.1, HTT.out.2.1]; simp)
              have H8 : Hid (Below wX.heap.size wX w8 ∧ Lr16 (w8.setCell ⟨q, 2, none⟩ v8) q ⟨s.shards, s.version, s.l.take k ++ ⟨t, n⟩ :: s.l.drop k⟩ v8 ∧ Moved wX (w8.setCell ⟨q, 2, none⟩ v8) (Ft16 (.slice (some ⟨g, 0, none⟩) N c) q) (Ft16 v8 q)) := by
                have hb := H7.out.1.trans hb8
                rw [HLQ.out] at hr8
                have h := H3.out.1.put hb hr8
                exact ⟨hb, h.1, h.2⟩
              obtain ⟨a8, c8, e8, j1, j2⟩ := row_form hr8
              obtain ⟨N8, hN8⟩ : ∃ z, z = (T1 ++ [(⟨t, n⟩ : Tb.Mv)] ++ T2).length := ⟨_, rfl⟩
              rw [← hN8] at e8
              subst e8
              clear hr8 hb8 hg8 hv8 j1 j2 hN8 H7
              refine hKQ.out _ _ (fun _ => HSX.out _ H8.out.1) ?_
              clear hKQ KQ
              simp only [List.setIfInBounds_toArray, List.set_cons_zero, List.set_cons_succ]
              refine' take_T (i := 21) (d := 105) (v := _) rfl rfl (by kernel_rfl) (by kernel_rfl) (by kernel_rfl) (by kernel_rfl) (by kernel_rfl) (fun _ _ _ h => h) (Or.inl ⟨by rfl, ?h21⟩) (HSX.out _ H8.out.1) ?_
              case h21 =>
                intro w hSw
                go_simp
                with_reducible rfl
              simp only [List.setIfInBounds_toArray, List.set_cons_zero, List.set_cons_succ]
              refine' take_T (i := 22) (d := 106) (v := _) rfl rfl (by kernel_rfl) (by kernel_rfl) (by kernel_rfl) (by kernel_rfl) (by kernel_rfl) (fun _ _ _ h => h) (Or.inl ⟨by rfl, ?h22⟩) (HSX.out _ H8.out.1) ?_
              case h22 =>
                intro w hSw
                go_simp
                with_reducible rfl
              simp only [List.setIfInBounds_toArray, List.set_cons_zero, List.set_cons_succ]
              refine wpAnyT_ready (rs := [23]) (by kernel_rfl) (by simp) ?_
              refine AllReadyT.cons (o := _) rfl (fun KQ hKQ => ?_) AllReadyT.nil
              have d2 : w8.cell? ⟨q, 2, none⟩ = some (.slice (some ⟨g, 0, none⟩) N c) := HSX.out _ H8.out.1
              have f2 : w8.frozen? ⟨q, 2, none⟩ = false := (H3.out.1.later H8.out.1).blk.free 2
              go_simp
              clear d2 f2
              have HE : Hid (Lr16 (w8.setCell ⟨q, 2, none⟩ (.slice a8 N8 c8)) q ⟨s.shards, s.version, s.l.take k ++ ⟨t, n⟩ :: s.l.drop k⟩ (.slice a8 N8 c8) ∧ Moved w (w8.setCell ⟨q, 2, none⟩ (.slice a8 N8 c8)) (Ft16 (.slice (some ⟨g, 0, none⟩) N c) q) (Ft16 (.slice a8 N8 c8) q)) := ⟨H8.out.2.1, (Moved.of_below _ H3.out.2).trans H8.out.2.2⟩
              clear H8 HSX HSO H3
              generalize w8.setCell ⟨q, 2, none⟩ (.slice a8 N8 c8) = w9 at *
              refine hKQ.out _ _ (fun h => absurd rfl h) ?_
              clear hKQ KQ
              refine wpAnyT_done (by kernel_rfl) ?_ _
              have d1 : w9.cell? ⟨q, 1, none⟩ = some (.int .i64 s.version) := HE.out.1.blk.cell 1
              have f8 := HE.out.1.blk.free 1
              have hwv : IntKind.wrap .i64 (s.version + 1) = s.version + 1 := by
                have a1 := H0.out.2.1.v1
                have a2 := H0.out.2.1.vm
                have a3 := H0.out.2.2.2.1
                rw [IntKind.wrap_i64]
                omega
              have HE2 : Hid (Lr16 (w9.setCell ⟨q, 1, none⟩ (.int .i64 (s.version + 1))) q ⟨s.shards, s.version + 1, s.l.take k ++ ⟨t, n⟩ :: s.l.drop k⟩ (.slice a8 N8 c8) ∧ Moved w9 (w9.setCell ⟨q, 1, none⟩ (.int .i64 (s.version + 1))) (Ft16 (.slice a8 N8 c8) q) (Ft16 (.slice a8 N8 c8) q)) := HE.out.1.vers (s.version + 1)
              go_wp2
              go_ret
              exact RmP.done HE2.out.1 HR.out (HE.out.2.trans HE2.out.2)
set_option maxRecDepth 20000 in
set_option maxHeartbeats 8000000 in
theorem refMove_none16 (q N c : Nat) (s : Tb.St) (m : Int) (t : ByteArray) (n : Int) (w : World) (h : Lr16 w q s (.slice none N c)) (hf : Tb.Fine m s) (hm : m ≤ 2199023255552) (hN : N = s.l.length) (hNc : N = 0 ∧ c = 0) (ht : t.size ≤ maxLen) (R : Int × Tb.St) (hR : R = Tb.move s t n) :
    Calls Tryz.prog 31 #[dptr q, .string t, .int .i64 n] w fun e w' => RmP w q (Ft16 (.slice none N c) q) R e w' := by
  have Nc : (N : Int) ≤ (c : Int) := by omega
  have HNC : Hid (N = 0 ∧ c = 0) := hNc
  clear hNc
  have H0 : Hid (Lr16 w q s (.slice none N c) ∧ Tb.Fine m s ∧ R = Tb.move s t n ∧ m ≤ 2199023255552 ∧ N = s.l.length) := ⟨h, hf, hR, hm, hN⟩
  have HNO : Hid (Tb.may s t n = false → R = (1, s)) := fun e => by rw [hR]; exact Tb.move_no e
  obtain ⟨nm, hnm⟩ : ∃ z, z = Tb.isName t := ⟨_, rfl⟩
  have HNM : Hid (nm = Tb.isName t) := hnm
  have HG : Hid (Calls Tryz.prog 52 #[.string t] w fun e w' => e = .returned (.bool nm) ∧ w' = w) := by
    rw [hnm]
    exact Pa.isName_any t w ht
  obtain ⟨p, hp⟩ : ∃ p, p = Tb.pos s.l t := ⟨_, rfl⟩
  obtain ⟨hs, hhs⟩ : ∃ z, z = Tb.has s.l t := ⟨_, rfl⟩
  have hpN : p ≤ N := by rw [hp, hN]; exact Tb.pos_le _ _
  have hN50 : N ≤ 50 := by rw [hN]; exact hf.len
  have HP : Hid (p = Tb.pos s.l t ∧ hs = Tb.has s.l t) := ⟨hp, hhs⟩
  have c0 : w.cell? ⟨q, 0, none⟩ = some (.int .i64 s.shards) := h.blk.cell 0
  have c2 : w.cell? ⟨q, 2, none⟩ = some (.slice none N c) := h.blk.cell 2
  clear h hf hm ht hR hnm hp hhs hN
  unfold dptr
  go_enter Tryz.func31, Tryz.ntmps31
  go_wp2_with fail
  refine HG.out.mono ?_
  rintro e w1 ⟨rfl, hw⟩
  rw [hw]
  clear hw w1 HG
  cases nm with
  | false =>
    have HR : Hid (R = (1, s)) := HNO.out (by unfold Tb.may; rw [← HNM.out]; rfl)
    go_wp2
    go_ret
    exact RmP.same H0.out.1 HR.out (Below.refl _ _)
  | true =>
  by_cases h1 : n < 0
  · have HR : Hid (R = (1, s)) := HNO.out (by
      have h : ¬ Tb.may s t n = true := fun e => by have := (Tb.may_iff.1 e).2.1; omega
      simpa using h)
    go_wp2
    go_ret
    exact RmP.same H0.out.1 HR.out (Below.refl _ _)
  by_cases h2 : s.shards ≤ n
  · have HR : Hid (R = (1, s)) := HNO.out (by
      have h : ¬ Tb.may s t n = true := fun e => by have := (Tb.may_iff.1 e).2.2; omega
      simpa using h)
    go_wp2
    go_ret
    exact RmP.same H0.out.1 HR.out (Below.refl _ _)
  have HM : Hid (Tb.may s t n = true) := Tb.may_iff.2 ⟨HNM.out.symm, by omega, by omega⟩
  go_wp2
  clear h1 h2 c0 HNO
  go_loop [7] (fun i => ∃ k : Nat, k ≤ p ∧ i = .int .i64 (k : Int)) (fun i => N + 1 - (intOf i).toNat)
  case atStart => exact ⟨0, Nat.zero_le _, rfl⟩
  case round =>
    obtain ⟨k, hk, rfl⟩ := hrel
    have k0 : (0 : Int) ≤ (k : Int) := by omega
    have hwk : IntKind.wrap .i64 ((k : Int) + 1) = (k : Int) + 1 := by rw [IntKind.wrap_i64]; omega
    go_upto_region 4 with fail
    go_cut [41] (fun z wx => z = .bool (decide (k < p)) ∧ wx = w)
    case first =>
      have hlt' : ¬ (k : Int) < (N : Int) := by have := HNC.out; omega
      have hkd : decide (k < p) = false := by have := HNC.out; simp; omega
      go_wp2
      go_meet
      case rel => exact ⟨by rw [hkd], rfl⟩
    case rest =>
      obtain ⟨rfl, hwc⟩ := hcut
      obtain rfl := hwc.symm
      by_cases hkp : k < p
      · have hkd : decide (k < p) = true := by simp [hkp]
        rw [hkd]
        clear hkd
        go_wp2
        go_round
        case rel => exact ⟨k + 1, by omega, by go_num⟩
        case measure => simp [intOf]; omega
      have hkd : decide (k < p) = false := by simp [hkp]
      rw [hkd]
      have HKP : Hid (k = p) := (show k = p by omega)
      have hkN : k ≤ N := by omega
      clear hkd hkp hk
      go_upto_region 6 with fail
      go_cut [62] (fun z wx => z = .bool hs ∧ wx = w)
      case first =>
        have hlt' : ¬ (k : Int) < (N : Int) := by have := HNC.out; omega
        have hsf : hs = false := by
          cases e2 : hs with
          | false => rfl
          | true =>
            obtain ⟨x, hx, _⟩ := (Tb.pos_has (t := t) H0.out.2.1.rises).1 (by rw [← HP.out.2]; exact e2)
            have h5 := (List.getElem?_eq_some_iff.1 hx).1
            have := HNC.out
            have := H0.out.2.2.2.2
            omega
        go_wp2
        go_meet
        case rel => exact ⟨by rw [hsf], rfl⟩
      case rest =>
        obtain ⟨rfl, hwc⟩ := hcut
        obtain rfl := hwc.symm
        have hsf : hs = false := by
          cases e2 : hs with
          | false => rfl
          | true =>
            obtain ⟨x, hx, _⟩ := (Tb.pos_has (t := t) H0.out.2.1.rises).1 (by rw [← HP.out.2]; exact e2)
            have h5 := (List.getElem?_eq_some_iff.1 hx).1
            have := HNC.out
            have := H0.out.2.2.2.2
            omega
        subst hsf
        by_cases hfu : (50 : Int) ≤ (N : Int)
        · have HR : Hid (R = (2, s)) := (show R = (2, s) by rw [H0.out.2.2.1]; exact Tb.move_full HM.out HP.out.2.symm (by have := H0.out.2.2.2.2; omega))
          go_wp2
          go_ret
          exact RmP.same H0.out.1 HR.out (Below.refl _ _)
        have HR : Hid (R = (0, ⟨s.shards, s.version + 1, s.l.take k ++ ⟨t, n⟩ :: s.l.drop k⟩)) := (show R = _ by rw [H0.out.2.2.1, Tb.move_ins HM.out HP.out.2.symm (by have := H0.out.2.2.2.2; omega), ← HP.out.1, ← HKP.out])
        have kc : (k : Int) ≤ (c : Int) := by omega
        have kN : (k : Int) ≤ (N : Int) := by omega
        go_upto_region 12 with fail
        clear hfu
        have HS12 : Hid (∀ w', Below w.heap.size w w' → Smc w' (.slice none k c) (s.l.take k) ∧ Smc w' (.slice none (N - k) (c - k)) (s.l.drop k)) := fun w' hb => by
          have hm := H0.out.2.2.2.2
          have h0 := HNC.out
          have hl : s.l = [] := List.length_eq_zero_iff.1 (by omega)
          rw [hl, h0.1, h0.2, show k = 0 by omega]
          exact ⟨Or.inl ⟨rfl, rfl⟩, Or.inl ⟨rfl, rfl⟩⟩
        obtain ⟨T1, hT1⟩ : ∃ T1, T1 = s.l.take k := ⟨_, rfl⟩
        obtain ⟨T2, hT2⟩ : ∃ T2, T2 = s.l.drop k := ⟨_, rfl⟩
        have HTT : Hid (T1 = s.l.take k ∧ T2 = s.l.drop k ∧ T1.length + T2.length = N ∧ N ≤ 50) := ⟨hT1, hT2, by rw [hT1, hT2, List.length_take, List.length_drop]; have := H0.out.2.2.2.2; omega, hN50⟩
        obtain ⟨U1, hU1⟩ : ∃ U : Value, U = (.slice none k c) := ⟨_, rfl⟩
        obtain ⟨U2, hU2⟩ : ∃ U : Value, U = (.slice none (N - k) (c - k)) := ⟨_, rfl⟩
        rw [← hT1, ← hT2, ← hU1, ← hU2] at HS12
        have HU : Hid (U1 = (.slice none k c) ∧ U2 = (.slice none (N - k) (c - k))) := ⟨hU1, hU2⟩
        clear hT1 hT2 hU1 hU2
        refine wp_region_T (fun w' => w'.cell? ⟨q, 2, none⟩ = some (.slice none N c)) 23 (by kernel_rfl) ?_
        have H3 : Hid (Lr16 w.drew q s (.slice none N c) ∧ Below w.heap.size w w.drew) := ⟨H0.out.1.later (Below.refl _ _).drew, (Below.refl _ _).drew⟩
        have HSO : Hid (∀ w', Below w.drew.heap.size w.drew w' → Smc w' U1 T1 ∧ Smc w' U2 T2) := fun w' hb => HS12.out w' (below_drew hb)
        clear HS12 c2
        generalize w.drew = wX at *
        have HSX : Hid (∀ w', Below wX.heap.size wX w' → w'.cell? ⟨q, 2, none⟩ = some (.slice none N c)) := fun w' hb => (H3.out.1.later hb).blk.cell 2
        refine' take_T (i := 0) (d := 84) (v := _) rfl rfl (by kernel_rfl) (by kernel_rfl) (by kernel_rfl) (by kernel_rfl) (by kernel_rfl) (fun _ _ _ h => h) (Or.inl ⟨by rfl, ?h0⟩) (HSX.out _ (Below.refl _ _)) ?_
        case h0 =>
          intro w hSw
          go_simp
          with_reducible rfl
        simp only [List.setIfInBounds_toArray, List.set_cons_zero, List.set_cons_succ]
        refine' take_T (i := 2) (d := 86) (v := _) rfl rfl (by kernel_rfl) (by kernel_rfl) (by kernel_rfl) (by kernel_rfl) (by kernel_rfl) (fun _ _ _ h => h) (Or.inl ⟨by rfl, ?h2⟩) (HSX.out _ (Below.refl _ _)) ?_
        case h2 =>
          intro w hSw
          go_simp
          with_reducible rfl
        simp only [List.setIfInBounds_toArray, List.set_cons_zero, List.set_cons_succ]
        refine' take_T (i := 3) (d := 87) (v := _) rfl rfl (by kernel_rfl) (by kernel_rfl) (by kernel_rfl) (by kernel_rfl) (by kernel_rfl) (fun _ _ _ h => h) (Or.inl ⟨by rfl, ?h3⟩) (HSX.out _ (Below.refl _ _)) ?_
        case h3 =>
          intro w hSw
          go_simp
          with_reducible rfl
        simp only [List.setIfInBounds_toArray, List.set_cons_zero, List.set_cons_succ]
        refine' take_T (i := 4) (d := 88) (v := _) rfl rfl (by kernel_rfl) (by kernel_rfl) (by kernel_rfl) (by kernel_rfl) (by kernel_rfl) (fun _ _ _ h => h) (Or.inl ⟨by rfl, ?h4⟩) (HSX.out _ (Below.refl _ _)) ?_
        case h4 =>
          intro w hSw
          go_simp
          with_reducible rfl
        simp only [List.setIfInBounds_toArray, List.set_cons_zero, List.set_cons_succ]
        refine' take_T (i := 5) (d := 89) (v := _) rfl rfl (by kernel_rfl) (by kernel_rfl) (by kernel_rfl) (by kernel_rfl) (by kernel_rfl) (fun _ _ _ h => h) (Or.inl ⟨by rfl, ?h5⟩) (HSX.out _ (Below.refl _ _)) ?_
        case h5 =>
          intro w hSw
          go_simp
          with_reducible rfl
        simp only [List.setIfInBounds_toArray, List.set_cons_zero, List.set_cons_succ]
        refine' take_T (i := 6) (d := 90) (v := _) rfl rfl (by kernel_rfl) (by kernel_rfl) (by kernel_rfl) (by kernel_rfl) (by kernel_rfl) (fun _ _ _ h => h) (Or.inl ⟨by rfl, ?h6⟩) (HSX.out _ (Below.refl _ _)) ?_
        case h6 =>
          intro w hSw
          go_simp
          with_reducible rfl
        simp only [List.setIfInBounds_toArray, List.set_cons_zero, List.set_cons_succ]
        refine' take_T (i := 7) (d := 91) (v := _) rfl rfl (by kernel_rfl) (by kernel_rfl) (by kernel_rfl) (by kernel_rfl) (by kernel_rfl) (fun _ _ _ h => h) (Or.inl ⟨by rfl, ?h7⟩) (HSX.out _ (Below.refl _ _)) ?_
        case h7 =>
          intro w hSw
          go_simp
          with_reducible rfl
        simp only [List.setIfInBounds_toArray, List.set_cons_zero, List.set_cons_succ]
        refine' take_T (i := 9) (d := 93) (v := _) rfl rfl (by kernel_rfl) (by kernel_rfl) (by kernel_rfl) (by kernel_rfl) (by kernel_rfl) (fun _ _ _ h => h) (Or.inl ⟨by rfl, ?h9⟩) (HSX.out _ (Below.refl _ _)) ?_
        case h9 =>
          intro w hSw
          go_simp
          with_reducible rfl
        simp only [List.setIfInBounds_toArray, List.set_cons_zero, List.set_cons_succ]
        refine' take_T (i := 10) (d := 94) (v := _) rfl rfl (by kernel_rfl) (by kernel_rfl) (by kernel_rfl) (by kernel_rfl) (by kernel_rfl) (fun _ _ _ h => h) (Or.inl ⟨by rfl, ?h10⟩) (HSX.out _ (Below.refl _ _)) ?_
        case h10 =>
          intro w hSw
          go_simp
          with_reducible rfl
        simp only [List.setIfInBounds_toArray, List.set_cons_zero, List.set_cons_succ]
        refine' take_T (i := 11) (d := 95) (v := _) rfl rfl (by kernel_rfl) (by kernel_rfl) (by kernel_rfl) (by kernel_rfl) (by kernel_rfl) (fun _ _ _ h => h) (Or.inl ⟨by rfl, ?h11⟩) (HSX.out _ (Below.refl _ _)) ?_
        case h11 =>
          intro w hSw
          go_simp
          with_reducible rfl
        simp only [List.setIfInBounds_toArray, List.set_cons_zero, List.set_cons_succ]
        refine' take_T (i := 14) (d := 98) (v := _) rfl rfl (by kernel_rfl) (by kernel_rfl) (by kernel_rfl) (by kernel_rfl) (by kernel_rfl) (fun _ _ _ h => h) (Or.inl ⟨by rfl, ?h14⟩) (HSX.out _ (Below.refl _ _)) ?_
        case h14 =>
          intro w hSw
          go_simp
          with_reducible rfl
        simp only [List.setIfInBounds_toArray, List.set_cons_zero, List.set_cons_succ]
        refine' take_T (i := 15) (d := 99) (v := _) rfl rfl (by kernel_rfl) (by kernel_rfl) (by kernel_rfl) (by kernel_rfl) (by kernel_rfl) (fun _ _ _ h => h) (Or.inl ⟨by rfl, ?h15⟩) (HSX.out _ (Below.refl _ _)) ?_
        case h15 =>
          intro w hSw
          go_simp
          with_reducible rfl
        simp only [List.setIfInBounds_toArray, List.set_cons_zero, List.set_cons_succ]
        refine' take_T (i := 16) (d := 100) (v := _) rfl rfl (by kernel_rfl) (by kernel_rfl) (by kernel_rfl) (by kernel_rfl) (by kernel_rfl) (fun _ _ _ h => h) (Or.inl ⟨by rfl, ?h16⟩) (HSX.out _ (Below.refl _ _)) ?_
        case h16 =>
          intro w hSw
          go_simp
          with_reducible rfl
        simp only [List.setIfInBounds_toArray, List.set_cons_zero, List.set_cons_succ]
        refine' take_T (i := 17) (d := 101) (v := _) rfl rfl (by kernel_rfl) (by kernel_rfl) (by kernel_rfl) (by kernel_rfl) (by kernel_rfl) (fun _ _ _ h => h) (Or.inl ⟨by rfl, ?h17⟩) (HSX.out _ (Below.refl _ _)) ?_
        case h17 =>
          intro w hSw
          go_simp
          with_reducible rfl
        simp only [List.setIfInBounds_toArray, List.set_cons_zero, List.set_cons_succ]
        refine' take_T (i := 18) (d := 102) (v := _) rfl rfl (by kernel_rfl) (by kernel_rfl) (by kernel_rfl) (by kernel_rfl) (by kernel_rfl) (fun _ _ _ h => h) (Or.inl ⟨by rfl, ?h18⟩) (HSX.out _ (Below.refl _ _)) ?_
        case h18 =>
          intro w hSw
          go_simp
          with_reducible rfl
        simp only [List.setIfInBounds_toArray, List.set_cons_zero, List.set_cons_succ]
        refine' take_T (i := 19) (d := 103) (v := _) rfl rfl (by kernel_rfl) (by kernel_rfl) (by kernel_rfl) (by kernel_rfl) (by kernel_rfl) (fun _ _ _ h => h) (Or.inl ⟨by rfl, ?h19⟩) (HSX.out _ (Below.refl _ _)) ?_
        case h19 =>
          intro w hSw
          go_simp
          with_reducible rfl
        simp only [List.setIfInBounds_toArray, List.set_cons_zero, List.set_cons_succ]
        rw [← HU.out.1, ← HU.out.2]
        have HBX : Hid (Below wX.heap.size wX wX) := Below.refl _ _
        refine wpAnyT_ready (rs := [1, 12]) (by kernel_rfl) (by simp) ?_
        refine AllReadyT.cons (o := _) rfl (fun KQ hKQ => ?_) (AllReadyT.cons (o := _) rfl (fun KQ hKQ => ?_) AllReadyT.nil)
        · as_aux_lemma =>
            go_simp
            obtain ⟨nb, hnb⟩ : ∃ z, z = wX.heap.size := ⟨_, rfl⟩
            rw [← hnb]
            have H4 : Hid (Below wX.heap.size wX (wX.alloc (.cells #[] 109)) ∧ (wX.alloc (.cells #[] 109)).ownsRow wX.heap.size 109 2 (.slice (some ⟨nb, 0, none⟩) 0 0) ([] : List Tb.Mv).length (mcs []) ∧ wX.heap.size ≤ nb ∧ Below wX.heap.size wX (wX.alloc (.cells #[] 109))) := by
              rw [hnb]
              exact ⟨HBX.out.alloc HBX.out.size _, World.ownsRow_made wX #[] 0 HBX.out.size (by decide) rfl, Nat.le_refl _, (Below.refl _ _).alloc (Nat.le_refl _) _⟩
            clear hnb
            generalize wX.alloc (.cells #[] 109) = w4 at *
            refine hKQ.out _ _ (fun _ => HSX.out _ H4.out.1) ?_
            clear hKQ KQ
            refine wpAnyT_ready (rs := [8, 12]) (by kernel_rfl) (by simp) ?_
            refine AllReadyT.cons (o := _) rfl (fun KQ hKQ => ?_) (AllReadyT.cons (o := _) rfl (fun KQ hKQ => ?_) AllReadyT.nil)
            · refine wp_mcd16 infoMr Tryz.underlying103 _ _ rfl 92 rfl wX.heap.size (.slice (some ⟨nb, 0, none⟩) 0 0) U1 [] T1 w4 rfl rfl H4.out.2.1 H4.out.1.size (HSO.out _ H4.out.1).1 (by have := HTT.out; simp only [List.length_nil]; omega) ?_
              intro v5 w5 hr5 hb5 hg5 hv5
              have H5 : Hid (Below wX.heap.size wX w5 ∧ w5.ownsRow wX.heap.size 109 2 v5 T1.length (mcs T1)) := ⟨H4.out.1.trans hb5, hr5⟩
              clear hr5 hb5 hg5 hv5 H4
              refine hKQ.out _ _ (fun _ => HSX.out _ H5.out.1) ?_
              clear hKQ KQ
              simp only [List.setIfInBounds_toArray, List.set_cons_zero, List.set_cons_succ]
              refine wpAnyT_ready (rs := [12]) (by kernel_rfl) (by simp) ?_
              refine AllReadyT.cons (o := _) rfl (fun KQ hKQ => ?_) AllReadyT.nil
              go_simp
              obtain ⟨sb, hsb⟩ : ∃ z, z = w5.heap.size := ⟨_, rfl⟩
              rw [← hsb]
              have H6 : Hid (Below wX.heap.size wX (w5.alloc (.cells #[.string t, .int .i64 n] 109)) ∧ Cb (w5.alloc (.cells #[.string t, .int .i64 n] 109)) sb (mc ⟨t, n⟩) 109 ∧ w5.heap.size ≤ sb) := by
                rw [hsb]
                exact ⟨H5.out.1.alloc H5.out.1.size _, Cb.made w5 (mc ⟨t, n⟩) _, Nat.le_refl _⟩
              clear hsb
              have H66 : Hid (Below wX.heap.size wX (w5.alloc (.cells #[.string t, .int .i64 n] 109)) ∧ (w5.alloc (.cells #[.string t, .int .i64 n] 109)).ownsRow wX.heap.size 109 2 v5 T1.length (mcs T1) ∧ Cb (w5.alloc (.cells #[.string t, .int .i64 n] 109)) sb (mc ⟨t, n⟩) 109) := ⟨H6.out.1, H5.out.2.alloc _, H6.out.2.1⟩
              clear H5 H6
              generalize (w5.alloc (.cells #[.string t, .int .i64 n] 109)) = w6 at *
              refine hKQ.out _ _ (fun _ => HSX.out _ H66.out.1) ?_
              clear hKQ KQ
              refine wpAnyT_ready (rs := [13]) (by kernel_rfl) (by simp) ?_
              refine AllReadyT.cons (o := _) rfl (fun KQ hKQ => ?_) AllReadyT.nil
              refine wp_mcd16 infoMr Tryz.underlying103 _ _ rfl 97 rfl wX.heap.size v5 (.slice (some ⟨sb, 0, none⟩) 1 1) T1 [(⟨t, n⟩ : Tb.Mv)] w6 rfl rfl H66.out.2.1 H66.out.1.size (Smc.one H66.out.2.2) (by have := HTT.out; simp only [List.length_singleton]; omega) ?_
              intro v7 w7 hr7 hb7 hg7 hv7
              have H7 : Hid (Below wX.heap.size wX w7 ∧ w7.ownsRow wX.heap.size 109 2 v7 (T1 ++ [(⟨t, n⟩ : Tb.Mv)]).length (mcs (T1 ++ [(⟨t, n⟩ : Tb.Mv)]))) := ⟨H66.out.1.trans hb7, hr7⟩
              clear hr7 hb7 hg7 hv7 H66
              refine hKQ.out _ _ (fun _ => HSX.out _ H7.out.1) ?_
              clear hKQ KQ
              simp only [List.setIfInBounds_toArray, List.set_cons_zero, List.set_cons_succ]
              refine wpAnyT_ready (rs := [20]) (by kernel_rfl) (by simp) ?_
              refine AllReadyT.cons (o := _) rfl (fun KQ hKQ => ?_) AllReadyT.nil
              refine wp_mcd16 infoMr Tryz.underlying103 _ _ rfl 104 rfl wX.heap.size v7 U2 (T1 ++ [(⟨t, n⟩ : Tb.Mv)]) T2 w7 rfl rfl H7.out.2 H7.out.1.size (HSO.out _ H7.out.1).2 (by have := HTT.out; simp only [List.length_append, List.length_singleton]; omega) ?_
              intro v8 w8 hr8 hb8 hg8 hv8
              have HLQ : Hid (T1 ++ [(⟨t, n⟩ : Tb.Mv)] ++ T2 = s.l.take k ++ (⟨t, n⟩ : Tb.Mv) :: s.l.drop k) := (show T1 ++ [(⟨t, n⟩ : Tb.Mv)] ++ T2 = s.l.take k ++ (⟨t, n⟩ : Tb.Mv) :: s.l.drop k by rw [HTT.out.1, HTT.out.2.1]; simp)
              have H8 : Hid (Below wX.heap.size wX w8 ∧ Lr16 (w8.setCell ⟨q, 2, none⟩ v8) q ⟨s.shards, s.version, s.l.take k ++ ⟨t, n⟩ :: s.l.drop k⟩ v8 ∧ Moved wX (w8.setCell ⟨q, 2, none⟩ v8) (Ft16 (.slice none N c) q) (Ft16 v8 q)) := by
                have hb := H7.out.1.trans hb8
                rw [HLQ.out] at hr8
                have h := H3.out.1.put hb hr8
                exact ⟨hb, h.1, h.2⟩
              obtain ⟨a8, c8, e8, j1, j2⟩ := row_form hr8
              obtain ⟨N8, hN8⟩ : ∃ z, z = (T1 ++ [(⟨t, n⟩ : Tb.Mv)] ++ T2).length := ⟨_, rfl⟩
              rw [← hN8] at e8
              subst e8
              clear hr8 hb8 hg8 hv8 j1 j2 hN8 H7
              refine hKQ.out _ _ (fun _ => HSX.out _ H8.out.1) ?_
              clear hKQ KQ
              simp only [List.setIfInBounds_toArray, List.set_cons_zero, List.set_cons_succ]
              refine' take_T (i := 21) (d := 105) (v := _) rfl rfl (by kernel_rfl) (by kernel_rfl) (by kernel_rfl) (by kernel_rfl) (by kernel_rfl) (fun _ _ _ h => h) (Or.inl ⟨by rfl, ?h21⟩) (HSX.out _ H8.out.1) ?_
              case h21 =>
                intro w hSw
                go_simp
                with_reducible rfl
              simp only [List.setIfInBounds_toArray, List.set_cons_zero, List.set_cons_succ]
              refine' take_T (i := 22) (d := 106) (v := _) rfl rfl (by kernel_rfl) (by kernel_rfl) (by kernel_rfl) (by kernel_rfl) (by kernel_rfl) (fun _ _ _ h => h) (Or.inl ⟨by rfl, ?h22⟩) (HSX.out _ H8.out.1) ?_
              case h22 =>
                intro w hSw
                go_simp
                with_reducible rfl
              simp only [List.setIfInBounds_toArray, List.set_cons_zero, List.set_cons_succ]
              refine wpAnyT_ready (rs := [23]) (by kernel_rfl) (by simp) ?_
              refine AllReadyT.cons (o := _) rfl (fun KQ hKQ => ?_) AllReadyT.nil
              have d2 : w8.cell? ⟨q, 2, none⟩ = some (.slice none N c) := HSX.out _ H8.out.1
              have f2 : w8.frozen? ⟨q, 2, none⟩ = false := (H3.out.1.later H8.out.1).blk.free 2
              go_simp
              clear d2 f2
              have HE : Hid (Lr16 (w8.setCell ⟨q, 2, none⟩ (.slice a8 N8 c8)) q ⟨s.shards, s.version, s.l.take k ++ ⟨t, n⟩ :: s.l.drop k⟩ (.slice a8 N8 c8) ∧ Moved w (w8.setCell ⟨q, 2, none⟩ (.slice a8 N8 c8)) (Ft16 (.slice none N c) q) (Ft16 (.slice a8 N8 c8) q)) := ⟨H8.out.2.1, (Moved.of_below _ H3.out.2).trans H8.out.2.2⟩
              clear H8 HSX HSO H3
              generalize w8.setCell ⟨q, 2, none⟩ (.slice a8 N8 c8) = w9 at *
              refine hKQ.out _ _ (fun h => absurd rfl h) ?_
              clear hKQ KQ
              refine wpAnyT_done (by kernel_rfl) ?_ _
              have d1 : w9.cell? ⟨q, 1, none⟩ = some (.int .i64 s.version) := HE.out.1.blk.cell 1
              have f8 := HE.out.1.blk.free 1
              have hwv : IntKind.wrap .i64 (s.version + 1) = s.version + 1 := by
                have a1 := H0.out.2.1.v1
                have a2 := H0.out.2.1.vm
                have a3 := H0.out.2.2.2.1
                rw [IntKind.wrap_i64]
                omega
              have HE2 : Hid (Lr16 (w9.setCell ⟨q, 1, none⟩ (.int .i64 (s.version + 1))) q ⟨s.shards, s.version + 1, s.l.take k ++ ⟨t, n⟩ :: s.l.drop k⟩ (.slice a8 N8 c8) ∧ Moved w9 (w9.setCell ⟨q, 1, none⟩ (.int .i64 (s.version + 1))) (Ft16 (.slice a8 N8 c8) q) (Ft16 (.slice a8 N8 c8) q)) := HE.out.1.vers (s.version + 1)
              go_wp2
              go_ret
              exact RmP.done HE2.out.1 HR.out (HE.out.2.trans HE2.out.2)
            · go_simp
              obtain ⟨sb, hsb⟩ : ∃ z, z = w4.heap.size := ⟨_, rfl⟩
              rw [← hsb]
              have H5 : Hid (Below wX.heap.size wX (w4.alloc (.cells #[.string t, .int .i64 n] 109)) ∧ Cb (w4.alloc (.cells #[.string t, .int .i64 n] 109)) sb (mc ⟨t, n⟩) 109 ∧ w4.heap.size ≤ sb) := by
                rw [hsb]
                exact ⟨H4.out.1.alloc H4.out.1.size _, Cb.made w4 (mc ⟨t, n⟩) _, Nat.le_refl _⟩
              clear hsb
              have H55 : Hid (Below wX.heap.size wX (w4.alloc (.cells #[.string t, .int .i64 n] 109)) ∧ (w4.alloc (.cells #[.string t, .int .i64 n] 109)).ownsRow wX.heap.size 109 2 (.slice (some ⟨nb, 0, none⟩) 0 0) ([] : List Tb.Mv).length (mcs []) ∧ Cb (w4.alloc (.cells #[.string t, .int .i64 n] 109)) sb (mc ⟨t, n⟩) 109 ∧ nb ≠ sb) := ⟨H5.out.1, H4.out.2.1.alloc _, H5.out.2.1, fun e => by have h1 := (H4.out.2.1.lt nb rfl).2; have h2 := H5.out.2.2; omega⟩
              clear H4 H5
              generalize (w4.alloc (.cells #[.string t, .int .i64 n] 109)) = w5 at *
              refine hKQ.out _ _ (fun _ => HSX.out _ H55.out.1) ?_
              clear hKQ KQ
              refine wpAnyT_ready (rs := [8]) (by kernel_rfl) (by simp) ?_
              refine AllReadyT.cons (o := _) rfl (fun KQ hKQ => ?_) AllReadyT.nil
              refine wp_mcd16 infoMr Tryz.underlying103 _ _ rfl 92 rfl wX.heap.size (.slice (some ⟨nb, 0, none⟩) 0 0) U1 [] T1 w5 rfl rfl H55.out.2.1 H55.out.1.size (HSO.out _ H55.out.1).1 (by have := HTT.out; simp only [List.length_nil]; omega) ?_
              intro v5 w6 hr6 hb6 hg6 hv6
              have H66 : Hid (Below wX.heap.size wX w6 ∧ w6.ownsRow wX.heap.size 109 2 v5 T1.length (mcs T1) ∧ Cb w6 sb (mc ⟨t, n⟩) 109) := ⟨H55.out.1.trans hb6, hr6, H55.out.2.2.1.keep (hg6.block sb H55.out.2.2.1.lt (fun e => H55.out.2.2.2 (by simpa [Value.ownBlock] using e.symm)))⟩
              clear hr6 hb6 hg6 hv6 H55
              refine hKQ.out _ _ (fun _ => HSX.out _ H66.out.1) ?_
              clear hKQ KQ
              simp only [List.setIfInBounds_toArray, List.set_cons_zero, List.set_cons_succ]
              refine wpAnyT_ready (rs := [13]) (by kernel_rfl) (by simp) ?_
              refine AllReadyT.cons (o := _) rfl (fun KQ hKQ => ?_) AllReadyT.nil
              refine wp_mcd16 infoMr Tryz.underlying103 _ _ rfl 97 rfl wX.heap.size v5 (.slice (some ⟨sb, 0, none⟩) 1 1) T1 [(⟨t, n⟩ : Tb.Mv)] w6 rfl rfl H66.out.2.1 H66.out.1.size (Smc.one H66.out.2.2) (by have := HTT.out; simp only [List.length_singleton]; omega) ?_
              intro v7 w7 hr7 hb7 hg7 hv7
              have H7 : Hid (Below wX.heap.size wX w7 ∧ w7.ownsRow wX.heap.size 109 2 v7 (T1 ++ [(⟨t, n⟩ : Tb.Mv)]).length (mcs (T1 ++ [(⟨t, n⟩ : Tb.Mv)]))) := ⟨H66.out.1.trans hb7, hr7⟩
              clear hr7 hb7 hg7 hv7 H66
              refine hKQ.out _ _ (fun _ => HSX.out _ H7.out.1) ?_
              clear hKQ KQ
              simp only [List.setIfInBounds_toArray, List.set_cons_zero, List.set_cons_succ]
              refine wpAnyT_ready (rs := [20]) (by kernel_rfl) (by simp) ?_
              refine AllReadyT.cons (o := _) rfl (fun KQ hKQ => ?_) AllReadyT.nil
              refine wp_mcd16 infoMr Tryz.underlying103 _ _ rfl 104 rfl wX.heap.size v7 U2 (T1 ++ [(⟨t, n⟩ : Tb.Mv)]) T2 w7 rfl rfl H7.out.2 H7.out.1.size (HSO.out _ H7.out.1).2 (by have := HTT.out; simp only [List.length_append, List.length_singleton]; omega) ?_
              intro v8 w8 hr8 hb8 hg8 hv8
              have HLQ : Hid (T1 ++ [(⟨t, n⟩ : Tb.Mv)] ++ T2 = s.l.take k ++ (⟨t, n⟩ : Tb.Mv) :: s.l.drop k) := (show T1 ++ [(⟨t, n⟩ : Tb.Mv)] ++ T2 = s.l.take k ++ (⟨t, n⟩ : Tb.Mv) :: s.l.drop k by rw [HTT.out.1, HTT.out.2.1]; simp)
              have H8 : Hid (Below wX.heap.size wX w8 ∧ Lr16 (w8.setCell ⟨q, 2, none⟩ v8) q ⟨s.shards, s.version, s.l.take k ++ ⟨t, n⟩ :: s.l.drop k⟩ v8 ∧ Moved wX (w8.setCell ⟨q, 2, none⟩ v8) (Ft16 (.slice none N c) q) (Ft16 v8 q)) := by
                have hb := H7.out.1.trans hb8
                rw [HLQ.out] at hr8
                have h := H3.out.1.put hb hr8
                exact ⟨hb, h.1, h.2⟩
              obtain ⟨a8, c8, e8, j1, j2⟩ := row_form hr8
              obtain ⟨N8, hN8⟩ : ∃ z, z = (T1 ++ [(⟨t, n⟩ : Tb.Mv)] ++ T2).length := ⟨_, rfl⟩
              rw [← hN8] at e8
              subst e8
              clear hr8 hb8 hg8 hv8 j1 j2 hN8 H7
              refine hKQ.out _ _ (fun _ => HSX.out _ H8.out.1) ?_
              clear hKQ KQ
              simp only [List.setIfInBounds_toArray, List.set_cons_zero, List.set_cons_succ]
              refine' take_T (i := 21) (d := 105) (v := _) rfl rfl (by kernel_rfl) (by kernel_rfl) (by kernel_rfl) (by kernel_rfl) (by kernel_rfl) (fun _ _ _ h => h) (Or.inl ⟨by rfl, ?h21⟩) (HSX.out _ H8.out.1) ?_
              case h21 =>
                intro w hSw
                go_simp
                with_reducible rfl
              simp only [List.setIfInBounds_toArray, List.set_cons_zero, List.set_cons_succ]
              refine' take_T (i := 22) (d := 106) (v := _) rfl rfl (by kernel_rfl) (by kernel_rfl) (by kernel_rfl) (by kernel_rfl) (by kernel_rfl) (fun _ _ _ h => h) (Or.inl ⟨by rfl, ?h22⟩) (HSX.out _ H8.out.1) ?_
              case h22 =>
                intro w hSw
                go_simp
                with_reducible rfl
              simp only [List.setIfInBounds_toArray, List.set_cons_zero, List.set_cons_succ]
              refine wpAnyT_ready (rs := [23]) (by kernel_rfl) (by simp) ?_
              refine AllReadyT.cons (o := _) rfl (fun KQ hKQ => ?_) AllReadyT.nil
              have d2 : w8.cell? ⟨q, 2, none⟩ = some (.slice none N c) := HSX.out _ H8.out.1
              have f2 : w8.frozen? ⟨q, 2, none⟩ = false := (H3.out.1.later H8.out.1).blk.free 2
              go_simp
              clear d2 f2
              have HE : Hid (Lr16 (w8.setCell ⟨q, 2, none⟩ (.slice a8 N8 c8)) q ⟨s.shards, s.version, s.l.take k ++ ⟨t, n⟩ :: s.l.drop k⟩ (.slice a8 N8 c8) ∧ Moved w (w8.setCell ⟨q, 2, none⟩ (.slice a8 N8 c8)) (Ft16 (.slice none N c) q) (Ft16 (.slice a8 N8 c8) q)) := ⟨H8.out.2.1, (Moved.of_below _ H3.out.2).trans H8.out.2.2⟩
              clear H8 HSX HSO H3
              generalize w8.setCell ⟨q, 2, none⟩ (.slice a8 N8 c8) = w9 at *
              refine hKQ.out _ _ (fun h => absurd rfl h) ?_
              clear hKQ KQ
              refine wpAnyT_done (by kernel_rfl) ?_ _
              have d1 : w9.cell? ⟨q, 1, none⟩ = some (.int .i64 s.version) := HE.out.1.blk.cell 1
              have f8 := HE.out.1.blk.free 1
              have hwv : IntKind.wrap .i64 (s.version + 1) = s.version + 1 := by
                have a1 := H0.out.2.1.v1
                have a2 := H0.out.2.1.vm
                have a3 := H0.out.2.2.2.1
                rw [IntKind.wrap_i64]
                omega
              have HE2 : Hid (Lr16 (w9.setCell ⟨q, 1, none⟩ (.int .i64 (s.version + 1))) q ⟨s.shards, s.version + 1, s.l.take k ++ ⟨t, n⟩ :: s.l.drop k⟩ (.slice a8 N8 c8) ∧ Moved w9 (w9.setCell ⟨q, 1, none⟩ (.int .i64 (s.version + 1))) (Ft16 (.slice a8 N8 c8) q) (Ft16 (.slice a8 N8 c8) q)) := HE.out.1.vers (s.version + 1)
              go_wp2
              go_ret
              exact RmP.done HE2.out.1 HR.out (HE.out.2.trans HE2.out.2)
        · as_aux_lemma =>
            go_simp
            obtain ⟨sb, hsb⟩ : ∃ z, z = wX.heap.size := ⟨_, rfl⟩
            rw [← hsb]
            have H4 : Hid (Below wX.heap.size wX (wX.alloc (.cells #[.string t, .int .i64 n] 109)) ∧ Cb (wX.alloc (.cells #[.string t, .int .i64 n] 109)) sb (mc ⟨t, n⟩) 109 ∧ wX.heap.size ≤ sb) := by
              rw [hsb]
              exact ⟨HBX.out.alloc HBX.out.size _, Cb.made wX (mc ⟨t, n⟩) _, Nat.le_refl _⟩
            clear hsb
            have H44 : Hid (Below wX.heap.size wX (wX.alloc (.cells #[.string t, .int .i64 n] 109)) ∧ Cb (wX.alloc (.cells #[.string t, .int .i64 n] 109)) sb (mc ⟨t, n⟩) 109) := ⟨H4.out.1, H4.out.2.1⟩
            clear H4
            generalize (wX.alloc (.cells #[.string t, .int .i64 n] 109)) = w4 at *
            refine hKQ.out _ _ (fun _ => HSX.out _ H44.out.1) ?_
            clear hKQ KQ
            refine wpAnyT_ready (rs := [1]) (by kernel_rfl) (by simp) ?_
            refine AllReadyT.cons (o := _) rfl (fun KQ hKQ => ?_) AllReadyT.nil
            go_simp
            obtain ⟨nb, hnb⟩ : ∃ z, z = w4.heap.size := ⟨_, rfl⟩
            rw [← hnb]
            have H5 : Hid (Below wX.heap.size wX (w4.alloc (.cells #[] 109)) ∧ (w4.alloc (.cells #[] 109)).ownsRow wX.heap.size 109 2 (.slice (some ⟨nb, 0, none⟩) 0 0) ([] : List Tb.Mv).length (mcs []) ∧ w4.heap.size ≤ nb ∧ Below w4.heap.size w4 (w4.alloc (.cells #[] 109))) := by
              rw [hnb]
              exact ⟨H44.out.1.alloc H44.out.1.size _, World.ownsRow_made w4 #[] 0 H44.out.1.size (by decide) rfl, Nat.le_refl _, (Below.refl _ _).alloc (Nat.le_refl _) _⟩
            clear hnb
            generalize w4.alloc (.cells #[] 109) = w5 at *
            refine hKQ.out _ _ (fun _ => HSX.out _ H5.out.1) ?_
            clear hKQ KQ
            have H55 : Hid (Below wX.heap.size wX w5 ∧ w5.ownsRow wX.heap.size 109 2 (.slice (some ⟨nb, 0, none⟩) 0 0) ([] : List Tb.Mv).length (mcs []) ∧ Cb w5 sb (mc ⟨t, n⟩) 109 ∧ nb ≠ sb) := ⟨H5.out.1, H5.out.2.1, H44.out.2.below H5.out.2.2.2, fun e => by have h1 := H44.out.2.lt; have h2 := H5.out.2.2.1; omega⟩
            clear H44 H5
            refine wpAnyT_ready (rs := [8]) (by kernel_rfl) (by simp) ?_
            refine AllReadyT.cons (o := _) rfl (fun KQ hKQ => ?_) AllReadyT.nil
            refine wp_mcd16 infoMr Tryz.underlying103 _ _ rfl 92 rfl wX.heap.size (.slice (some ⟨nb, 0, none⟩) 0 0) U1 [] T1 w5 rfl rfl H55.out.2.1 H55.out.1.size (HSO.out _ H55.out.1).1 (by have := HTT.out; simp only [List.length_nil]; omega) ?_
            intro v5 w6 hr6 hb6 hg6 hv6
            have H66 : Hid (Below wX.heap.size wX w6 ∧ w6.ownsRow wX.heap.size 109 2 v5 T1.length (mcs T1) ∧ Cb w6 sb (mc ⟨t, n⟩) 109) := ⟨H55.out.1.trans hb6, hr6, H55.out.2.2.1.keep (hg6.block sb H55.out.2.2.1.lt (fun e => H55.out.2.2.2 (by simpa [Value.ownBlock] using e.symm)))⟩
            clear hr6 hb6 hg6 hv6 H55
            refine hKQ.out _ _ (fun _ => HSX.out _ H66.out.1) ?_
            clear hKQ KQ
            simp only [List.setIfInBounds_toArray, List.set_cons_zero, List.set_cons_succ]
            refine wpAnyT_ready (rs := [13]) (by kernel_rfl) (by simp) ?_
            refine AllReadyT.cons (o := _) rfl (fun KQ hKQ => ?_) AllReadyT.nil
            refine wp_mcd16 infoMr Tryz.underlying103 _ _ rfl 97 rfl wX.heap.size v5 (.slice (some ⟨sb, 0, none⟩) 1 1) T1 [(⟨t, n⟩ : Tb.Mv)] w6 rfl rfl H66.out.2.1 H66.out.1.size (Smc.one H66.out.2.2) (by have := HTT.out; simp only [List.length_singleton]; omega) ?_
            intro v7 w7 hr7 hb7 hg7 hv7
            have H7 : Hid (Below wX.heap.size wX w7 ∧ w7.ownsRow wX.heap.size 109 2 v7 (T1 ++ [(⟨t, n⟩ : Tb.Mv)]).length (mcs (T1 ++ [(⟨t, n⟩ : Tb.Mv)]))) := ⟨H66.out.1.trans hb7, hr7⟩
            clear hr7 hb7 hg7 hv7 H66
            refine hKQ.out _ _ (fun _ => HSX.out _ H7.out.1) ?_
            clear hKQ KQ
            simp only [List.setIfInBounds_toArray, List.set_cons_zero, List.set_cons_succ]
            refine wpAnyT_ready (rs := [20]) (by kernel_rfl) (by simp) ?_
            refine AllReadyT.cons (o := _) rfl (fun KQ hKQ => ?_) AllReadyT.nil
            refine wp_mcd16 infoMr Tryz.underlying103 _ _ rfl 104 rfl wX.heap.size v7 U2 (T1 ++ [(⟨t, n⟩ : Tb.Mv)]) T2 w7 rfl rfl H7.out.2 H7.out.1.size (HSO.out _ H7.out.1).2 (by have := HTT.out; simp only [List.length_append, List.length_singleton]; omega) ?_
            intro v8 w8 hr8 hb8 hg8 hv8
            have HLQ : Hid (T1 ++ [(⟨t, n⟩ : Tb.Mv)] ++ T2 = s.l.take k ++ (⟨t, n⟩ : Tb.Mv) :: s.l.drop k) := (show T1 ++ [(⟨t, n⟩ : Tb.Mv)] ++ T2 = s.l.take k ++ (⟨t, n⟩ : Tb.Mv) :: s.l.drop k by rw [HTT.out.1, HTT.out.2.1]; simp)
            have H8 : Hid (Below wX.heap.size wX w8 ∧ Lr16 (w8.setCell ⟨q, 2, none⟩ v8) q ⟨s.shards, s.version, s.l.take k ++ ⟨t, n⟩ :: s.l.drop k⟩ v8 ∧ Moved wX (w8.setCell ⟨q, 2, none⟩ v8) (Ft16 (.slice none N c) q) (Ft16 v8 q)) := by
              have hb := H7.out.1.trans hb8
              rw [HLQ.out] at hr8
              have h := H3.out.1.put hb hr8
              exact ⟨hb, h.1, h.2⟩
            obtain ⟨a8, c8, e8, j1, j2⟩ := row_form hr8
            obtain ⟨N8, hN8⟩ : ∃ z, z = (T1 ++ [(⟨t, n⟩ : Tb.Mv)] ++ T2).length := ⟨_, rfl⟩
            rw [← hN8] at e8
            subst e8
            clear hr8 hb8 hg8 hv8 j1 j2 hN8 H7
            refine hKQ.out _ _ (fun _ => HSX.out _ H8.out.1) ?_
            clear hKQ KQ
            simp only [List.setIfInBounds_toArray, List.set_cons_zero, List.set_cons_succ]
            refine' take_T (i := 21) (d := 105) (v := _) rfl rfl (by kernel_rfl) (by kernel_rfl) (by kernel_rfl) (by kernel_rfl) (by kernel_rfl) (fun _ _ _ h => h) (Or.inl ⟨by rfl, ?h21⟩) (HSX.out _ H8.out.1) ?_
            case h21 =>
              intro w hSw
              go_simp
              with_reducible rfl
            simp only [List.setIfInBounds_toArray, List.set_cons_zero, List.set_cons_succ]
            refine' take_T (i := 22) (d := 106) (v := _) rfl rfl (by kernel_rfl) (by kernel_rfl) (by kernel_rfl) (by kernel_rfl) (by kernel_rfl) (fun _ _ _ h => h) (Or.inl ⟨by rfl, ?h22⟩) (HSX.out _ H8.out.1) ?_
            case h22 =>
              intro w hSw
              go_simp
              with_reducible rfl
            simp only [List.setIfInBounds_toArray, List.set_cons_zero, List.set_cons_succ]
            refine wpAnyT_ready (rs := [23]) (by kernel_rfl) (by simp) ?_
            refine AllReadyT.cons (o := _) rfl (fun KQ hKQ => ?_) AllReadyT.nil
            have d2 : w8.cell? ⟨q, 2, none⟩ = some (.slice none N c) := HSX.out _ H8.out.1
            have f2 : w8.frozen? ⟨q, 2, none⟩ = false := (H3.out.1.later H8.out.1).blk.free 2
            go_simp
            clear d2 f2
            have HE : Hid (Lr16 (w8.setCell ⟨q, 2, none⟩ (.slice a8 N8 c8)) q ⟨s.shards, s.version, s.l.take k ++ ⟨t, n⟩ :: s.l.drop k⟩ (.slice a8 N8 c8) ∧ Moved w (w8.setCell ⟨q, 2, none⟩ (.slice a8 N8 c8)) (Ft16 (.slice none N c) q) (Ft16 (.slice a8 N8 c8) q)) := ⟨H8.out.2.1, (Moved.of_below _ H3.out.2).trans H8.out.2.2⟩
            clear H8 HSX HSO H3
            generalize w8.setCell ⟨q, 2, none⟩ (.slice a8 N8 c8) = w9 at *
            refine hKQ.out _ _ (fun h => absurd rfl h) ?_
            clear hKQ KQ
            refine wpAnyT_done (by kernel_rfl) ?_ _
            have d1 : w9.cell? ⟨q, 1, none⟩ = some (.int .i64 s.version) := HE.out.1.blk.cell 1
            have f8 := HE.out.1.blk.free 1
            have hwv : IntKind.wrap .i64 (s.version + 1) = s.version + 1 := by
              have a1 := H0.out.2.1.v1
              have a2 := H0.out.2.1.vm
              have a3 := H0.out.2.2.2.1
              rw [IntKind.wrap_i64]
              omega
            have HE2 : Hid (Lr16 (w9.setCell ⟨q, 1, none⟩ (.int .i64 (s.version + 1))) q ⟨s.shards, s.version + 1, s.l.take k ++ ⟨t, n⟩ :: s.l.drop k⟩ (.slice a8 N8 c8) ∧ Moved w9 (w9.setCell ⟨q, 1, none⟩ (.int .i64 (s.version + 1))) (Ft16 (.slice a8 N8 c8) q) (Ft16 (.slice a8 N8 c8) q)) := HE.out.1.vers (s.version + 1)
            go_wp2
            go_ret
            exact RmP.done HE2.out.1 HR.out (HE.out.2.trans HE2.out.2)
theorem refMove_any16 (q : Nat) (s : Tb.St) (F : Nat → Prop) (m : Int) (t : ByteArray) (n : Int) (w : World) (hL : LRb w q s F) (hf : Tb.Fine m s) (hm : m ≤ 2199023255552) (ht : t.size ≤ maxLen) :
    Calls Tryz.prog 31 #[dptr q, .string t, .int .i64 n] w fun e w' => ∃ F', e = .returned (.int .i64 (Tb.move s t n).1) ∧ LRb w' q (Tb.move s t n).2 F' ∧ Moved w w' F F' := by
  obtain ⟨v, h, rfl⟩ := hL
  rcases h.row.2 with ⟨rfl, h0⟩ | ⟨g, c, cur, rfl, _, _, hNc, _⟩
  · exact refMove_none16 q 0 0 s m t n w h hf hm h0.symm ⟨rfl, rfl⟩ ht _ rfl
  · exact refMove_some16 q g s.l.length c s m t n w h hf hm rfl hNc ht _ rfl
end Go.Proofs.YtjimemnkmpapgaaGreatDoor
