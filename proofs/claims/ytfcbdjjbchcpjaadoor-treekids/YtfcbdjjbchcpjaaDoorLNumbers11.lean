/- TreeNumbers: its walk. -/
import Derived.Test.YtfcbdjjbchcpjaaDoorLVersions11
import Derived.Test.YtfcbdjjbchcpjaaDoorPln
namespace Go.Proofs.YtfcbdjjbchcpjaaDoor.Tq
open Kq
def pAX : ByteArray := ⟨#[47, 97, 47, 120]⟩
theorem bp_a : Bp pA pAX := ⟨by kernel_rfl, by kernel_rfl, by kernel_rfl, by kernel_rfl, by decide, by decide⟩
/-- The parent alone. -/
theorem kd_made {P B : ByteArray} (hb : Bp P B) {r z : Int} (hr : ¬ (r < 1 ∨ 500 < r)) (hz : 0 ≤ z) : ∃ x t, doo ⟨r, []⟩ (Tq.mk P 0) 1 z = (x, t) ∧ x.err = 0 ∧ t.room = r ∧ Kd P B t 0 [] 0 z := by
  have e : doo ⟨r, []⟩ (Tq.mk P 0) 1 z = (told P ⟨#[]⟩ [] (new z 0 ⟨#[]⟩), ⟨r, [(P, new z 0 ⟨#[]⟩)]⟩) := by
    rw [doo_top hb.goodP (Or.inl rfl) hb.upP (by decide) hz, make_yes (by rfl) (by show ((0 : Nat) : Int) < r; omega)]
    rfl
  have h := fine_doo (o := Tq.mk P 0) (s := 1) (z := z) (fine11_new hr) ((few_new r).more (by decide))
  rw [e] at h
  refine ⟨_, _, e, rfl, rfl, h, fun e he => ?_, ⟨new z 0 ⟨#[]⟩, ?_, rfl, rfl, rfl, rfl, rfl, rfl, rfl, ?_⟩, ?_, ?_, rfl, ?_, List.nodup_nil, by simp⟩
  · simp at he
    rw [he]
    exact Nat.le_refl _
  · show find [(P, _)] P = _
    rw [find_cons, if_pos rfl]
  · intro s
    simp [new]
  · intro q nd hf
    have hf : find [(P, new z 0 ⟨#[]⟩)] q = some nd := hf
    rw [find_cons] at hf
    split at hf
    · rename_i e
      exact Or.inl e.symm
    · cases hf
  · intro j hj
    cases hj
  · intro j hj
    cases hj
/-- The last one that was made. -/
def lastOf (B : ByteArray) : Nat → ByteArray
  | 0 => ⟨#[]⟩
  | k + 1 => kid B k
theorem last_no {B : ByteArray} (hb : 1 ≤ B.data.toList.length) {k : Nat} (hk : k ≤ 800) : (Op.bytesLess (kid B k).toList (lastOf B k).toList || (kid B k).toList == (lastOf B k).toList) = false := by
  have e : ∀ l, (tb l).toList = l := fun l => by rw [ByteArray.toList_eq]; exact tb_data l
  cases k with
  | zero =>
    unfold lastOf kid
    rw [e]
    have e0 : (⟨#[]⟩ : ByteArray).toList = [] := by rw [ByteArray.toList_eq]
    rw [e0]
    cases hl : B.data.toList with
    | nil => rw [hl] at hb; simp at hb
    | cons c l => simp [Op.bytesLess]
  | succ k =>
    unfold lastOf
    rw [kid_less (by omega) (by omega)]
    have h1 : ¬ (kid B (k + 1)).toList = (kid B k).toList := fun h => by
      unfold kid at h
      rw [e, e] at h
      have := dig_inj (by omega) (by omega) (List.append_cancel_left h)
      omega
    simp [h1]
end Go.Proofs.YtfcbdjjbchcpjaaDoor.Tq
namespace Go.Proofs.YtfcbdjjbchcpjaaDoor
open Go.RowKit

theorem kid_size {P B : ByteArray} (hb : Tq.Bp P B) {j : Nat} (hj : j ≤ 2147483647) : (Tq.kid B j).size ≤ maxLen := by
  have h1 := (Pl.good_parts (hb.good_kid hj)).2.2
  rw [Array.length_toList] at h1
  have h2 : (Tq.kid B j).size = (Tq.kid B j).data.size := rfl
  unfold maxLen
  omega

set_option maxRecDepth 20000 in
set_option maxHeartbeats 4000000 in
theorem numbers_any11 {LT : Rep11} (S : Specs11 LT) (u : Value) (l : List Bool) (W : World) (hS : Pa.Std W) (hu : Bb W u l) (hl : l.length ≤ maxLen) :
    Calls Tryd.prog 3 #[u] W fun e w' => e = .returned (.bool true) ∧ Below W.heap.size W w' := by
  have HS : Hid (Specs11 LT ∧ Pa.Std W) := ⟨S, hS⟩
  obtain ⟨av, N, c, rfl, hk, hc⟩ := hu
  have HC : Hid ((∀ (j : Nat) t, l[j]? = some t → ∃ g o, av = some ⟨g, o, none⟩ ∧ W.cell? ⟨g, o + j, none⟩ = some (.bool t)) ∧ N = l.length) := ⟨hc, hk⟩
  have hN1 : N ≤ 9223372036854775807 := by unfold maxLen at hl; omega
  clear S hS hc hk hl
  go_enter Tryd.func3, Tryd.ntmps3
  go_wp2_with fail
  refine (awake_any11 HS.out.1 W HS.out.2).mono ?_
  rintro e w0 ⟨rfl, hb⟩
  have B0 : Hid (Below W.heap.size W w0) := hb
  clear hb
  by_cases h40 : 40 < N
  · have h40' : (40 : Int) < (N : Int) := by omega
    go_wp2
    go_ret
    exact ⟨rfl, B0.out⟩
  have h40' : ¬ (40 : Int) < (N : Int) := by omega
  go_wp2_with fail
  refine (Mine11.made HS.out.1 100 (by decide) B0.out).mono ?_
  rintro e w1 ⟨q, F1, rfl, hM, hb⟩
  have M1 : Hid (Mine11 LT W w1 q ⟨100, []⟩ F1) := hM
  clear hM hb B0
  go_wp2_with fail
  refine (made_any11 Tq.pA 0 w1).mono ?_
  rintro e w2 ⟨rfl, hb⟩
  have M2 : Hid (Mine11 LT W w2 q ⟨100, []⟩ F1) := M1.out.later HS.out.1 hb
  clear hb M1
  unfold ov Tq.mk
  simp only []
  go_wp2_with fail
  obtain ⟨x3, t3, he, hx3, hr3, hK⟩ := Tq.kd_made Tq.bp_a (r := 100) (z := 1) (by decide) (by decide)
  refine (M2.out.doo HS.out.1 HS.out.2 (Tq.mk Tq.pA 0) 1 1 (fit_mk pA_size (by decide)) x3 t3 he hK.fine).mono ?_
  rintro e w3 ⟨F3, v3, rfl, hsq, hof, hM, hmv⟩
  have M3 : Hid (Mine11 LT W w3 q t3 F3 ∧ Tq.Kd Tq.pA Tq.pAX t3 0 [] 0 1 ∧ t3.room = 100) := ⟨hM, hK, hr3⟩
  clear hof hM hmv M2 he hx3 hr3 hK
  obtain ⟨a3, n3, c3, rfl, hj1, hj2⟩ := hsq
  clear hj1 hj2
  unfold rv
  go_wp2
  go_loopw [5, 6] (fun s i wr => ∃ (k : Nat) (js : List Nat) (K : Int) (t : Tq.Tr) (F : Nat → Prop), k ≤ N ∧ s = .string (Tq.lastOf Tq.pAX k) ∧ i = .int .i64 (k : Int) ∧ Mine11 LT W wr q t F ∧ Tq.Kd Tq.pA Tq.pAX t k js K 1 ∧ t.room = 100) (fun _ i _ => N - (intOf i).toNat)
  case atStart => exact ⟨0, [], 0, t3, F3, Nat.zero_le _, rfl, rfl, M3.out.1, M3.out.2.1, M3.out.2.2⟩
  case round =>
    obtain ⟨k, js, K, t, F, hk, rfl, rfl, hM, hK, hr⟩ := hrel
    have HR : Hid (Mine11 LT W wr q t F ∧ Tq.Kd Tq.pA Tq.pAX t k js K 1 ∧ t.room = 100) := ⟨hM, hK, hr⟩
    clear hM hK hr M3
    obtain ⟨la, hla⟩ : ∃ z, z = Tq.lastOf Tq.pAX k := ⟨_, rfl⟩
    rw [← hla]
    have HLA : Hid (la = Tq.lastOf Tq.pAX k) := hla
    clear hla
    by_cases hlt : k < N
    · have hlt' : (k : Int) < (N : Int) := by omega
      have hk0 : (0 : Int) ≤ (k : Int) := by omega
      have hwk : IntKind.wrap .i64 ((k : Int) + 1) = (k : Int) + 1 := by rw [IntKind.wrap_i64]; omega
      obtain ⟨b, hb⟩ : ∃ b, l[k]? = some b := ⟨_, List.getElem?_eq_getElem (by have := HC.out.2; omega)⟩
      obtain ⟨g, o, hav, lx⟩ := HC.out.1 k b hb
      subst hav
      have HLX : Hid (W.cell? ⟨g, o + k, none⟩ = some (.bool b)) := lx
      clear hb lx
      go_wp2_with fail
      refine (made_any11 Tq.pAX 2 wr).mono ?_
      rintro e w4 ⟨rfl, hb⟩
      have M4 : Hid (Mine11 LT W w4 q t F) := HR.out.1.later HS.out.1 hb
      clear hb
      unfold ov Tq.mk
      simp only []
      go_wp2_with fail
      obtain ⟨x5, t5, he5, hx5, hp5, hn5, hr5, hK5⟩ := HR.out.2.1.push Tq.bp_a (by omega) (by rw [HR.out.2.1.len, HR.out.2.2]; have := HR.out.2.1.sum; omega) (s := 1) (z := (k : Int)) (by decide) hk0
      refine (M4.out.doo HS.out.1 HS.out.2 (Tq.mk Tq.pAX 2) 1 (k : Int) (fit_mk (by unfold maxLen; decide) (by decide)) x5 t5 he5 hK5.fine).mono ?_
      rintro e w5 ⟨F5, v5, rfl, hsq, hof, hM, hmv⟩
      have M5 : Hid (Mine11 LT W w5 q t5 F5 ∧ Tq.Kd Tq.pA Tq.pAX t5 (k + 1) (js ++ [k]) (K + 1) 1 ∧ t5.room = 100) := ⟨hM, hK5, by rw [hr5]; exact HR.out.2.2⟩
      have HX5 : Hid (x5.err = 0 ∧ x5.path = Tq.kid Tq.pAX k) := ⟨hx5, hp5⟩
      clear hof hM hmv M4 he5 hx5 hp5 hn5 hr5 hK5 HR
      obtain ⟨a5, n5, c5, rfl, hj1, hj2⟩ := hsq
      clear hj1 hj2
      obtain ⟨q5, hq5⟩ : ∃ z, z = w5.heap.size := ⟨_, rfl⟩
      have hba := (Below.refl _ w5).alloc (Nat.le_refl _) (.cells #[.int .i64 x5.err, .string x5.path, .string x5.data, .slice a5 n5 c5, .int .i64 x5.made, .int .i64 x5.changed, .int .i64 x5.ver, .int .i64 x5.kids, .int .i64 x5.owner, .int .i64 x5.len, .int .i64 x5.cnt] 32)
      have M6 : Hid (Mine11 LT W (w5.alloc (.cells #[.int .i64 x5.err, .string x5.path, .string x5.data, .slice a5 n5 c5, .int .i64 x5.made, .int .i64 x5.changed, .int .i64 x5.ver, .int .i64 x5.kids, .int .i64 x5.owner, .int .i64 x5.len, .int .i64 x5.cnt] 32)) q t5 F5 ∧ Kept11 (w5.alloc (.cells #[.int .i64 x5.err, .string x5.path, .string x5.data, .slice a5 n5 c5, .int .i64 x5.made, .int .i64 x5.changed, .int .i64 x5.ver, .int .i64 x5.kids, .int .i64 x5.owner, .int .i64 x5.len, .int .i64 x5.cnt] 32)) F5 q5 (xc x5 (.slice a5 n5 c5)) 32) := ⟨M5.out.1.later HS.out.1 hba, by rw [hq5]; exact Kept11.made w5 F5 (fun k hk => HS.out.1.lt M5.out.1.ld hk) _ _⟩
      have HK5 : Hid (Tq.Kd Tq.pA Tq.pAX t5 (k + 1) (js ++ [k]) (K + 1) 1 ∧ t5.room = 100) := M5.out.2
      clear hba M5
      unfold rv
      go_upto_region 12 with fail
      rw [← hq5]
      clear hq5
      generalize w5.alloc (.cells #[.int .i64 x5.err, .string x5.path, .string x5.data, .slice a5 n5 c5, .int .i64 x5.made, .int .i64 x5.changed, .int .i64 x5.ver, .int .i64 x5.kids, .int .i64 x5.owner, .int .i64 x5.len, .int .i64 x5.cnt] 32) = w6 at *
      obtain ⟨kp, hkp⟩ : ∃ z, z = Tq.kid Tq.pAX k := ⟨_, rfl⟩
      have HKP : Hid (kp = Tq.kid Tq.pAX k) := hkp
      have r0 : w6.cell? ⟨q5, 0, none⟩ = some (.int .i64 0) := by
        have h := M6.out.2.cb.cell 0
        rw [show (xc x5 (.slice a5 n5 c5))[0]? = some (.int .i64 x5.err) from rfl, HX5.out.1] at h
        exact h
      have r1 : w6.cell? ⟨q5, 1, none⟩ = some (.string kp) := by
        have h := M6.out.2.cb.cell 1
        rw [show (xc x5 (.slice a5 n5 c5))[1]? = some (.string x5.path) from rfl, HX5.out.2, ← hkp] at h
        exact h
      have hle : (Op.bytesLess kp.toList la.toList || kp.toList == la.toList) = false := by
        rw [HKP.out, HLA.out]
        exact Tq.last_no (by decide) (by omega)
      have lx' : w6.cell? ⟨g, o + k, none⟩ = some (.bool b) := Below.kept M6.out.1.below HLX.out
      clear hkp
      cases b with
      | false =>
        go_wp2
        go_roundw
        case rel => exact ⟨k + 1, js ++ [k], K + 1, t5, F5, by omega, by rw [HKP.out]; rfl, by go_num, M6.out.1, HK5.out.1, HK5.out.2⟩
        case measure => simp [intOf]; omega
      | true =>
        go_wp2_with fail
        obtain ⟨t7, he7, hr7, hK7⟩ := HK5.out.1.pop Tq.bp_a (by omega) (j := k) (by simp) (v := 0) (s := 1) (z := (k : Int)) (Or.inr rfl) (by decide) hk0
        rw [← HKP.out] at he7
        refine (M6.out.1.doo HS.out.1 HS.out.2 (Tq.dl kp 0) 1 (k : Int) (fit_dl (by rw [HKP.out]; exact kid_size Tq.bp_a (by omega)) (by decide)) (Tq.gone kp) t7 he7 hK7.fine).mono ?_
        rintro e w7 ⟨F7, v7, rfl, hsq, hof, hM, hmv⟩
        have M7 : Hid (Mine11 LT W w7 q t7 F7 ∧ Tq.Kd Tq.pA Tq.pAX t7 (k + 1) ((js ++ [k]).erase k) (K + 1 + 1) 1 ∧ t7.room = 100) := ⟨hM, hK7, by rw [hr7]; exact HK5.out.2⟩
        clear hof hM hmv he7 hr7 hK7 HK5
        obtain ⟨a7, n7, c7, rfl, hj1, hj2⟩ := hsq
        clear hj1 hj2 r0 r1 lx'
        unfold rv Tq.gone
        simp only []
        have hf0 : ∀ (a : Option Addr) (k c : Nat) (w : World), (Instr.field 32 (.agg #[.int .i64 0, .string kp, .string ⟨#[]⟩, .slice a k c, .int .i64 0, .int .i64 0, .int .i64 0, .int .i64 0, .int .i64 0, .int .i64 0, .int .i64 0]) 0).run Tryd.prog w = .ok (.int .i64 0) w := fun _ _ _ _ => by kernel_rfl
        go_wp2
        go_roundw
        case rel => exact ⟨k + 1, _, _, t7, F7, by omega, by rw [HKP.out]; rfl, by go_num, M7.out.1, M7.out.2.1, M7.out.2.2⟩
        case measure => simp [intOf]; omega
    · have hlt' : ¬ (k : Int) < (N : Int) := by omega
      go_wp2
      go_ret
      exact ⟨rfl, HR.out.1.below⟩
end Go.Proofs.YtfcbdjjbchcpjaaDoor
