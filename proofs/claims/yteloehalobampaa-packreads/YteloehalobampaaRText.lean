/- What the reference's Reader answers: Text, End. -/
import Derived.Test.YteloehalobampaaRRead
namespace Go.Proofs.Yteloehalobampaa
open Go.RowKit

/-- No bytes at all are an empty text, wherever they lie. -/
theorem conv_none (ao : Option Addr) (c : Nat) (w : World) : (convert 25 9 (.slice ao 0 c)).run Try.prog w = .ok (.string ⟨#[]⟩) w := by
  cases ao with
  | none => exact run_convert_bytes_nil w 25 5 Try.underlying25 Try.underlying5 _ _ 9 Try.underlying9
  | some a => exact run_convert_bytes_back (P := Try.prog) w 25 9 5 a c [] Try.underlying25 Try.underlying5 Try.underlying9 (fun j hj => by simp at hj)

set_option maxHeartbeats 1000000 in
theorem fText_sad (q : Nat) (m : Int) (v : Value) (xs ys : List UInt8) (bad : Bool) (w : World) (hR : Rf w q v xs ys bad) (hb : (Pk.rC m ys bad).2.2 = true) :
    Calls Try.prog 18 #[.pointer (some ⟨q, 0, none⟩), .int .i64 m] w fun e w' => e = .returned (.string ⟨#[]⟩) ∧ Rf w' q v xs [] true ∧ w.grownBy w' (some q) := by
  have HR : Hid (Rf w q v xs ys bad) := hR
  have HBB : Hid ((Pk.rC m ys bad).2.2 = true) := hb
  clear hR hb
  go_enter Try.func18, Try.ntmps18
  go_wp2_with fail
  refine (fCount_any q m v xs ys bad _ HR.out).mono ?_
  rintro e w1 ⟨rfl, hr, hg⟩
  rw [HBB.out] at hr
  have HR1 : Hid (Rf w1 q v xs (Pk.rC m ys bad).2.1 true) := hr
  have HG1 : Hid (w.grownBy w1 (some q)) := hg
  have hc2 := hr.c2
  have hf2 := hr.f2
  clear hr hg
  go_wp2
  go_quiet (fail)
  go_wp2
  go_ret
  exact ⟨rfl, (rf_sad HR1.out _).1, grownBy_trans HG1.out (rf_sad HR1.out _).2⟩

set_option maxHeartbeats 1000000 in
theorem fText_few (q k : Nat) (m : Int) (v : Value) (xs ys : List UInt8) (bad : Bool) (w : World) (hR : Rf w q v xs ys bad) (hb : (Pk.rC m ys bad).2.2 = false) (hk : (Pk.rC m ys bad).1 = (k : Int)) (hK : k ≤ 9223372036854775807) (hl : (Pk.rC m ys bad).2.1.length < k) :
    Calls Try.prog 18 #[.pointer (some ⟨q, 0, none⟩), .int .i64 m] w fun e w' => e = .returned (.string ⟨#[]⟩) ∧ Rf w' q v xs [] true ∧ w.grownBy w' (some q) := by
  have HR : Hid (Rf w q v xs ys bad) := hR
  have HBB : Hid ((Pk.rC m ys bad).2.2 = false) := hb
  have HK : Hid ((Pk.rC m ys bad).1 = (k : Int)) := hk
  have HL : Hid ((Pk.rC m ys bad).2.1.length < k) := hl
  clear hR hb hk hl
  go_enter Try.func18, Try.ntmps18
  go_wp2_with fail
  refine (fCount_any q m v xs ys bad _ HR.out).mono ?_
  rintro e w1 ⟨rfl, hr, hg⟩
  rw [HBB.out] at hr
  rw [HK.out]
  have HR1 : Hid (Rf w1 q v xs (Pk.rC m ys bad).2.1 false) := hr
  have HG1 : Hid (w.grownBy w1 (some q)) := hg
  have hc2 := hr.c2
  have hc0 := hr.c0
  have hf2 := hr.f2
  have hfew := hr.few
  obtain ⟨t, hc1, ht, hy0⟩ := hr.pos
  have hy := hy0 rfl
  clear hy0
  obtain ⟨ao, n, c, rfl, hnl, _⟩ := hr.bs
  have hd : (n : Int) - t < k := by
    have h1 := HL.out
    rw [hy, List.length_drop] at h1
    omega
  rw [← hnl] at ht hfew
  clear hr hg hy hnl
  go_wp2
  go_quiet (fail)
  go_wp2
  go_ret
  exact ⟨rfl, (rf_sad HR1.out _).1, grownBy_trans HG1.out (rf_sad HR1.out _).2⟩

set_option maxHeartbeats 1000000 in
theorem fText_some (q k : Nat) (m : Int) (v : Value) (xs ys : List UInt8) (bad : Bool) (w : World) (hR : Rf w q v xs ys bad) (hb : (Pk.rC m ys bad).2.2 = false) (hk : (Pk.rC m ys bad).1 = (k : Int)) (hl : k ≤ (Pk.rC m ys bad).2.1.length) :
    Calls Try.prog 18 #[.pointer (some ⟨q, 0, none⟩), .int .i64 m] w fun e w' => e = .returned (.string ⟨((Pk.rC m ys bad).2.1.take k).toArray⟩) ∧ Rf w' q v xs ((Pk.rC m ys bad).2.1.drop k) false ∧ w.grownBy w' (some q) := by
  have HR : Hid (Rf w q v xs ys bad) := hR
  have HBB : Hid ((Pk.rC m ys bad).2.2 = false) := hb
  have HK : Hid ((Pk.rC m ys bad).1 = (k : Int)) := hk
  obtain ⟨zs, hzs⟩ : ∃ zs, zs = (Pk.rC m ys bad).2.1 := ⟨_, rfl⟩
  rw [← hzs] at hl ⊢
  have HZS : Hid (zs = (Pk.rC m ys bad).2.1) := hzs
  have HL : Hid (k ≤ zs.length) := hl
  obtain ⟨S, hS⟩ : ∃ S : ByteArray, S = ⟨(zs.take k).toArray⟩ := ⟨_, rfl⟩
  rw [← hS]
  have HS : Hid (S = ⟨(zs.take k).toArray⟩) := hS
  clear hR hb hk hl hzs hS
  go_enter Try.func18, Try.ntmps18
  go_wp2_with fail
  refine (fCount_any q m v xs ys bad _ HR.out).mono ?_
  rintro e w1 ⟨rfl, hr, hg⟩
  rw [HBB.out, ← HZS.out] at hr
  rw [HK.out]
  have HR1 : Hid (Rf w1 q v xs zs false) := hr
  have HG1 : Hid (w.grownBy w1 (some q)) := hg
  have hc2 := hr.c2
  have hc0 := hr.c0
  have hf1 := hr.f1
  have hfew := hr.few
  obtain ⟨t, hc1, ht, hy0⟩ := hr.pos
  have hy := hy0 rfl
  clear hy0
  have HY : Hid (zs = xs.drop t) := hy
  have hzl : zs.length = xs.length - t := by rw [hy, List.length_drop]
  by_cases hk0 : k = 0
  · subst hk0
    obtain ⟨ao, n, c, rfl, hnl, hsl⟩ := hr.bs
    have hnc : n ≤ c := by rw [hnl]; exact hsl.cap
    obtain rfl : S = ⟨#[]⟩ := by rw [HS.out]; rfl
    have HT : Hid (t + 0 ≤ xs.length) := ht
    have hcv := conv_none
    rw [← hnl] at ht hfew
    clear hr hg hy hzl hnl hsl
    have hd : decide ((n : Int) - t < 0) = false := by simp; omega
    have hd2 : ¬ (n : Int) - t < 0 := by omega
    have HON : Hid (∀ n2, Rf ((w1.drewN n2).setCell ⟨q, 1, none⟩ (.int .i64 (t : Int))) q (.slice ao n c) xs (zs.drop 0) false ∧ w1.grownBy ((w1.drewN n2).setCell ⟨q, 1, none⟩ (.int .i64 (t : Int))) (some q)) := fun n2 => rf_on (k := 0) HR1.out n2 (t : Int) (by simp) hc1 HY.out HT.out
    by_cases hct : c = t
    · subst hct
      go_wp2
      go_quiet (fail)
      go_wp2
      go_quiet (fail)
      go_wp2
      go_ret
      exact ⟨rfl, (HON.out _).1, grownBy_trans HG1.out (HON.out _).2⟩
    · have hb1 : (t : Int) ≤ c := by omega
      go_wp2
      go_quiet (fail)
      go_wp2
      go_quiet (fail)
      go_wp2
      go_ret
      exact ⟨rfl, (HON.out _).1, grownBy_trans HG1.out (HON.out _).2⟩
  · obtain ⟨g, o, n, c, rfl, hnl, hnc, hcells⟩ := hr.bs.plain (by have := HL.out; omega)
    have HT : Hid (t + k ≤ xs.length) := by
      have h : t + k ≤ xs.length := by have := HL.out; omega
      exact h
    have hcv : ∀ q2, (convert 25 9 (.slice (some ⟨g, o + t, none⟩) k (c - t))).run Try.prog (w1.drewN q2) = .ok (.string S) (w1.drewN q2) := fun q2 => by
      rw [HS.out]
      refine (bs_of_plain (by rw [List.length_take]; have := HL.out; omega) (by have := HT.out; omega) (fun i x hx => ?_)).conv
      rw [List.getElem?_take] at hx
      split at hx
      · rw [HY.out, List.getElem?_drop] at hx
        rw [Nat.add_assoc]
        exact hcells (t + i) x hx
      · cases hx
    have htk : t + k ≤ n := by rw [hnl]; exact HT.out
    rw [← hnl] at ht hfew
    clear hr hg hy hzl hnl hcells
    have hd : decide ((n : Int) - t < k) = false := by simp; omega
    have hd2 : ¬ (n : Int) - t < k := by omega
    have hb1 : (t : Int) ≤ (t : Int) + k := by omega
    have hb2 : (t : Int) + k ≤ c := by omega
    have hb3 : ¬ c = t := by omega
    have hb4 : t + k - t = k := by omega
    go_wp2
    go_quiet (fail)
    go_wp2
    go_quiet (fail)
    have hon := fun n => rf_on (k := k) HR1.out n ((t : Int) + k) (by omega) hc1 HY.out HT.out
    go_wp2
    go_ret
    exact ⟨rfl, (hon _).1, grownBy_trans HG1.out (hon _).2⟩

theorem sgn_le (n : Nat) (h : n < 18446744073709551616) : Pk.sgn n ≤ 9223372036854775807 := by
  unfold Pk.sgn; split <;> omega

theorem rI_le (ys : List UInt8) (bad : Bool) : (Pk.rI ys bad).1 ≤ 9223372036854775807 := by
  unfold Pk.rI
  split
  · rename_i h
    exact sgn_le _ (val8_lt _ (by rw [List.length_take]; omega))
  · show (0 : Int) ≤ _; decide

theorem rC_le (m : Int) (ys : List UInt8) (bad : Bool) : (Pk.rC m ys bad).1 ≤ 9223372036854775807 := by
  unfold Pk.rC
  split
  · show (0 : Int) ≤ _; decide
  · exact rI_le ys bad

theorem fText_any (q : Nat) (m : Int) (v : Value) (xs ys : List UInt8) (bad : Bool) (w : World) (hR : Rf w q v xs ys bad) :
    Calls Try.prog 18 #[.pointer (some ⟨q, 0, none⟩), .int .i64 m] w fun e w' => e = .returned (.string ⟨(Pk.rT m ys bad).1.toArray⟩) ∧ Rf w' q v xs (Pk.rT m ys bad).2.1 (Pk.rT m ys bad).2.2 ∧ w.grownBy w' (some q) := by
  cases hb : (Pk.rC m ys bad).2.2 with
  | true =>
    rw [rT_sad hb hR.sad]
    exact fText_sad q m v xs ys bad w hR hb
  | false =>
    have h0 := Pk.rC_nonneg m ys bad
    have h1 := rC_le m ys bad
    obtain ⟨k, hk⟩ : ∃ k : Nat, (Pk.rC m ys bad).1 = (k : Int) := ⟨(Pk.rC m ys bad).1.toNat, by omega⟩
    have hkt : (Pk.rC m ys bad).1.toNat = k := by omega
    unfold Pk.rT
    rw [hkt, hb]
    by_cases h : k ≤ (Pk.rC m ys bad).2.1.length
    · rw [if_pos h]; exact fText_some q k m v xs ys bad w hR hb hk h
    · rw [if_neg h]; exact fText_few q k m v xs ys bad w hR hb hk (by omega) (by omega)

set_option maxHeartbeats 1000000 in
theorem fEnd_any (q : Nat) (v : Value) (xs ys : List UInt8) (bad : Bool) (w : World) (hR : Rf w q v xs ys bad) :
    Calls Try.prog 21 #[.pointer (some ⟨q, 0, none⟩)] w fun e w' => e = .returned (.bool (!bad && ys.isEmpty)) ∧ ∃ n, w' = w.drewN n := by
  have hc2 := hR.c2
  have hc0 := hR.c0
  have hfew := hR.few
  obtain ⟨t, hc1, ht, hy⟩ := hR.pos
  obtain ⟨ao, n, c, rfl, hnl, _⟩ := hR.bs
  cases bad with
  | true =>
    clear hR hy hnl ht hfew
    go_enter Try.func21, Try.ntmps21
    go_wp2
    go_quiet (fail)
    go_wp2
    go_ret
    exact ⟨rfl, _, rfl⟩
  | false =>
    have hy1 := hy rfl
    clear hy
    have hy := hy1
    clear hy1
    obtain ⟨r, hr⟩ : ∃ r, r = ys.isEmpty := ⟨_, rfl⟩
    rw [← hr]
    have hl : ys.length = n - t := by rw [hy, List.length_drop, ← hnl]
    rw [← hnl] at ht hfew
    cases h0 : ((t : Int) == (n : Int)) with
    | true =>
      have e : (t : Int) = n := by simpa using h0
      obtain rfl : r = true := by rw [hr, List.isEmpty_iff_length_eq_zero]; omega
      clear hR hy hnl hr hl e ht hfew
      go_enter Try.func21, Try.ntmps21
      go_wp2
      go_quiet (fail)
      go_wp2
      go_ret
      exact ⟨rfl, _, rfl⟩
    | false =>
      have e : (t : Int) ≠ n := by simpa using h0
      obtain rfl : r = false := by
        rw [hr]
        cases hq : ys.isEmpty with
        | false => rfl
        | true => rw [List.isEmpty_iff_length_eq_zero] at hq; omega
      clear hR hy hnl hr hl e ht hfew
      go_enter Try.func21, Try.ntmps21
      go_wp2
      go_quiet (fail)
      go_wp2
      go_ret
      exact ⟨rfl, _, rfl⟩
end Go.Proofs.Yteloehalobampaa
