/- The walk of the statement FrameBits, over what Put and Scan answer: it answers true. -/
import Derived.Test.YtnpdfendcffapaaSpecs
namespace Go.Proofs.Ytnpdfendcffapaa
open Go.RowKit

theorem and7 (i : Nat) (h : i < 100000) : bits .and .i64 (i : Int) 7 = ((i % 8 : Nat) : Int) := by
  show IntKind.wrap .i64 ((BitVec.ofInt 64 (i : Int) &&& BitVec.ofInt 64 7).toNat : Int) = _
  have h7 : BitVec.ofInt 64 7 = 7#64 := rfl
  rw [BitVec.ofInt_natCast, h7, BitVec.toNat_and, BitVec.toNat_ofNat, Nat.mod_eq_of_lt (by omega)]
  have : i &&& 7 = i % 8 := Nat.and_two_pow_sub_one_eq_mod i 3
  show IntKind.wrap .i64 ((i &&& 7 : Nat) : Int) = _
  rw [this, IntKind.wrap_i64]
  omega

/-- The frames with one byte of the second changed. -/
theorem scan_bits (a b : List UInt8) (j : Nat) (x m : UInt8) (ha : a.length ≤ 20000) (hb : b.length ≤ 20000) (hj : j < 12 + b.length) (hx : (Fr.frame b)[j]? = some x) (hm : m ≠ 0) :
    Fr.scan ((Fr.frame a ++ Fr.frame b).set (12 + a.length + j) (x ^^^ m)) = ([a], 12 + a.length, 2) := by
  have e : (Fr.frame a ++ Fr.frame b).set (12 + a.length + j) (x ^^^ m) = Fr.frames [a] ++ (Fr.frame b).set j (x ^^^ m) := by
    rw [List.set_append_right _ _ (by rw [Fr.frame_len]; omega), Fr.frame_len, Nat.add_sub_cancel_left, Fr.frames_one]
  have ho : Fr.one ((Fr.frame b).set j (x ^^^ m)) = .error 2 := by
    refine Fr.one_set b j _ hb hj fun y hy => ?_
    rw [hx] at hy
    obtain rfl := Option.some.inj hy
    intro e
    apply hm
    have h2 := congrArg (x ^^^ ·) e
    simpa [← UInt8.xor_assoc] using h2
  rw [e, Fr.scan_frames [a] (by simpa using ha), Fr.scan_bad (fun e => ?_) ho, Fr.frames_one, Fr.frame_len]
  · simp
  · have := congrArg List.length e
    rw [List.length_set, Fr.frame_len] at this
    simp at this

theorem mask8 (s : Nat) (h : s < 8) : ∃ m : UInt8, (2 : Int) ^ s % 256 = (m.toNat : Int) ∧ m ≠ 0 := by
  match s, h with
  | 0, _ => exact ⟨1, by decide⟩
  | 1, _ => exact ⟨2, by decide⟩
  | 2, _ => exact ⟨4, by decide⟩
  | 3, _ => exact ⟨8, by decide⟩
  | 4, _ => exact ⟨16, by decide⟩
  | 5, _ => exact ⟨32, by decide⟩
  | 6, _ => exact ⟨64, by decide⟩
  | 7, _ => exact ⟨128, by decide⟩

set_option maxRecDepth 20000 in
set_option maxHeartbeats 2000000 in
theorem bits_main (hp : PutSpec) (hs : ScanSpec) (va vb : Value) (a b : List UInt8) (i : Nat) (w : World) (ha : Bs w va a) (hb : Bs w vb b) (hla : a.length ≤ 300) (hlb : b.length ≤ 300) (hi : i < 8 * (12 + b.length)) :
    Calls Try.prog 6 #[va, vb, .int .i64 (i : Int)] w fun e w' => e = .returned (.bool true) ∧ Below w.heap.size w w' := by
  have HP : Hid PutSpec := hp
  have HSc : Hid ScanSpec := hs
  have HA : Hid (Bs w va a) := ha
  have HBB : Hid (Bs w vb b) := hb
  obtain ⟨aa, na, ca, rfl, hna, hq1⟩ := ha
  obtain ⟨ab, nb, cb, rfl, hnb, hq2⟩ := hb
  have HN : Hid (na = a.length ∧ nb = b.length) := ⟨hna, hnb⟩
  have t1 : ¬ (300 : Int) < (na : Int) := by omega
  have t2 : ¬ (300 : Int) < (nb : Int) := by omega
  have t3 : ¬ (i : Int) < 0 := by omega
  have t4 : ¬ 8 * ((12 : Int) + (nb : Int)) ≤ (i : Int) := by omega
  have hi2 : i < 8 * (12 + nb) := by omega
  clear hp hs hna hnb hla hlb hi hq1 hq2
  go_enter Try.func6, Try.ntmps6
  go_wp2_with fail
  refine (awake_any HP.out HSc.out _).mono ?_
  rintro e w1 ⟨rfl, hb⟩
  have HB1 : Hid (Below w.heap.size w w1) := hb
  clear hb
  go_wp2_with fail
  refine (HP.out _ _ [] a _ (Bs.nil _) (HA.out.below HB1.out) (by simp) (by have := HN.out; omega)).mono ?_
  rintro e w2 ⟨v2, rfl, ho, hb⟩
  obtain ⟨ao2, c2, rfl⟩ := own_shape ho
  obtain ⟨n2, hn2⟩ : ∃ n2 : Nat, n2 = 12 + a.length := ⟨_, rfl⟩
  have e2 : ([] : List UInt8).length + (12 + a.length) = n2 := by rw [hn2]; simp
  have HO2 : Hid (Bs w2 (.slice ao2 n2 c2) (Fr.frame a)) := by
    have h := Bs.own ho
    rw [e2] at h
    exact h
  have HN2 : Hid (n2 = 12 + a.length) := hn2
  have hn21 : n2 ≤ 400 := by have := HN.out; omega
  have HB2 : Hid (Below w.heap.size w w2) := HB1.out.trans (hb.mono HB1.out.size)
  rw [e2]
  clear ho hb e2 hn2
  go_wp2_with fail
  refine (HP.out _ _ (Fr.frame a) b _ HO2.out (HBB.out.below HB2.out) (by rw [Fr.frame_len, ← HN2.out]; omega) (by have := HN.out; omega)).mono ?_
  rintro e w3 ⟨v3, rfl, ho, hb⟩
  have e3 : (Fr.frame a).length + (12 + b.length) = n2 + (12 + nb) := by rw [Fr.frame_len, ← HN2.out, HN.out.2]
  rw [e3] at ho
  obtain ⟨g3, c3, rfl, hg3, _⟩ := ho.form (by omega)
  have HO3 : Hid (w3.ownsRow w2.heap.size 5 1 (.slice (some ⟨g3, 0, none⟩) (n2 + (12 + nb)) c3) (n2 + (12 + nb)) (bc (Fr.frame a ++ Fr.frame b))) := ho
  have HG3 : Hid (w.heap.size ≤ g3) := Nat.le_trans HB2.out.size hg3
  have HB3 : Hid (Below w.heap.size w w3) := HB2.out.trans (hb.mono HB2.out.size)
  obtain ⟨j, hj⟩ : ∃ j : Nat, j = i / 8 := ⟨_, rfl⟩
  have hjl : j < 12 + nb := by omega
  have hjf : j < (Fr.frame b).length := by rw [Fr.frame_len, ← HN.out.2]; exact hjl
  have hjx : (Fr.frame a ++ Fr.frame b)[n2 + j]? = some (Fr.frame b)[j] := by
    rw [List.getElem?_append_right (by rw [Fr.frame_len, ← HN2.out]; omega), Fr.frame_len, ← HN2.out, Nat.add_sub_cancel_left, List.getElem?_eq_getElem hjf]
  have HX : Hid ((Fr.frame b)[j]? = some (Fr.frame b)[j]) := List.getElem?_eq_getElem hjf
  have hcell : w3.cell? ⟨g3, n2 + j, none⟩ = some (.int .u8 ((Fr.frame b)[j].toNat : Int)) := (ho.cellAt (n2 + j) (by omega)).trans (by unfold bc; rw [List.getElem?_map, hjx]; rfl)
  have hfz := ho.frozenAt (n2 + j)
  generalize (Fr.frame b)[j] = x at *
  have hq8 : (i : Int) / 8 = (j : Int) := by omega
  have hq9 : Int.tdiv (i : Int) 8 = (j : Int) := by rw [Int.tdiv_eq_ediv_of_nonneg (by omega)]; omega
  have h7 := and7 i (by omega)
  obtain ⟨s, hs⟩ : ∃ s : Nat, s = i % 8 := ⟨_, rfl⟩
  rw [← hs] at h7
  have hs8 : s < 8 := by omega
  have hsi : (s : Int) ≤ 8 := by omega
  have hs0 : (0 : Int) ≤ (s : Int) := by omega
  clear ho hb hg3 hjx hjf hs e3
  have HJ : Hid (j = i / 8) := hj
  clear hj
  obtain ⟨m, hm, hm0⟩ := mask8 s hs8
  have HM : Hid ((2 : Int) ^ s % 256 = (m.toNat : Int) ∧ m ≠ 0) := ⟨hm, hm0⟩
  clear hm hm0
  go_wp2_with fail
  rw [HM.out.1, xor8]
  have HO4 : Hid ((w3.setCell ⟨g3, n2 + j, none⟩ (.int .u8 ((x ^^^ m).toNat : Int))).ownsRow w2.heap.size 5 1 (.slice (some ⟨g3, 0, none⟩) (n2 + (12 + nb)) c3) (n2 + (12 + nb)) (bc ((Fr.frame a ++ Fr.frame b).set (n2 + j) (x ^^^ m)))) := own_set (i := n2 + j) (x ^^^ m) HO3.out
  have HB4 : Hid (Below w.heap.size w (w3.setCell ⟨g3, n2 + j, none⟩ (.int .u8 ((x ^^^ m).toNat : Int)))) :=
    HB3.out.grown (grownBy_setCell w3 ⟨g3, n2 + j, none⟩ _) HB3.out.size (fun q hq => by simp at hq; have := HG3.out; omega)
  clear hcell hfz
  generalize w3.setCell ⟨g3, n2 + j, none⟩ (.int .u8 ((x ^^^ m).toNat : Int)) = w4 at *
  have HE : Hid (Fr.scan ((Fr.frame a ++ Fr.frame b).set (n2 + j) (x ^^^ m)) = ([a], n2, 2)) := by
    have h := scan_bits a b j x m (by have := HN.out; omega) (by have := HN.out; omega) (by rw [← HN.out.2]; exact hjl) HX.out HM.out.2
    rw [← HN2.out] at h
    exact h
  refine (HSc.out _ _ _ (Bs.own HO4.out) (by rw [List.length_set, List.length_append, Fr.frame_len, Fr.frame_len]; have := HN.out; omega)).mono ?_
  rw [HE.out]
  rintro e w5 ⟨l, rfl, hl, hnz, hb⟩
  have HL5 : Hid (Bl w5 l [a]) := hl
  have HB5 : Hid (Below w.heap.size w w5) := HB4.out.trans (hb.mono HB4.out.size)
  clear hl hb hnz
  go_wp2_with fail
  have hbe : Below w5.heap.size w5 (w5.alloc (.cells #[.slice aa na ca] 23)) := (Below.refl _ w5).alloc (Nat.le_refl _) _
  refine (all_any l _ [a] [a] _ (HL5.out.below hbe) (Bl.one 23 (HA.out.below HB5.out)) (by simp)).mono ?_
  rintro e w6 ⟨rfl, hb⟩
  have HB6 : Hid (Below w.heap.size w w6) := (HB5.out.alloc HB5.out.size _).trans (hb.mono (by simp; exact Nat.le_succ_of_le HB5.out.size))
  have hd : decide (([a] : List (List UInt8)) = [a]) = true := decide_eq_true rfl
  rw [hd]
  clear hb hd hbe
  go_wp2
  go_ret
  exact ⟨rfl, HB6.out⟩

set_option maxHeartbeats 1000000 in
theorem bits_out (hp : PutSpec) (hs : ScanSpec) (aa ab : Option Addr) (na nb ca cb : Nat) (z : Int) (w : World) (hna : na ≤ 9223372036854775807) (hnb : nb ≤ 9223372036854775807) (h : (300 : Int) < (na : Int) ∨ (300 : Int) < (nb : Int) ∨ z < 0 ∨ 8 * ((12 : Int) + (nb : Int)) ≤ z) :
    Calls Try.prog 6 #[.slice aa na ca, .slice ab nb cb, .int .i64 z] w fun e w' => e = .returned (.bool true) ∧ Below w.heap.size w w' := by
  have H : Hid ((300 : Int) < (na : Int) ∨ (300 : Int) < (nb : Int) ∨ z < 0 ∨ 8 * ((12 : Int) + (nb : Int)) ≤ z) := h
  have HP : Hid PutSpec := hp
  have HSc : Hid ScanSpec := hs
  clear h hp hs
  go_enter Try.func6, Try.ntmps6
  go_wp2_with fail
  refine (awake_any HP.out HSc.out _).mono ?_
  rintro e w1 ⟨rfl, hb⟩
  have HB1 : Hid (Below w.heap.size w w1) := hb
  clear hb
  by_cases h1 : (300 : Int) < (na : Int)
  · go_wp2
    go_ret
    exact ⟨rfl, HB1.out⟩
  · by_cases h2 : (300 : Int) < (nb : Int)
    · go_wp2
      go_ret
      exact ⟨rfl, HB1.out⟩
    · by_cases h3 : z < 0
      · go_wp2
        go_ret
        exact ⟨rfl, HB1.out⟩
      · have h4 : 8 * ((12 : Int) + (nb : Int)) ≤ z := by have := H.out; omega
        go_wp2
        go_ret
        exact ⟨rfl, HB1.out⟩

/-- FrameBits answers true. -/
theorem bits_any (hp : PutSpec) (hs : ScanSpec) (va vb : Value) (a b : List UInt8) (z : Int) (w : World) (ha : Bs w va a) (hb : Bs w vb b) (hla : a.length ≤ maxLen) (hlb : b.length ≤ maxLen) :
    Calls Try.prog 6 #[va, vb, .int .i64 z] w fun e w' => e = .returned (.bool true) ∧ Below w.heap.size w w' := by
  unfold maxLen at hla hlb
  by_cases h : (300 : Int) < (a.length : Int) ∨ (300 : Int) < (b.length : Int) ∨ z < 0 ∨ 8 * ((12 : Int) + (b.length : Int)) ≤ z
  · obtain ⟨aa, na, ca, rfl, hna, _⟩ := ha
    obtain ⟨ab, nb, cb, rfl, hnb, _⟩ := hb
    exact bits_out hp hs aa ab na nb ca cb z w (by omega) (by omega) (by rw [hna, hnb]; exact h)
  · obtain ⟨i, rfl⟩ : ∃ i : Nat, z = i := ⟨z.toNat, by omega⟩
    exact bits_main hp hs va vb a b i w ha hb (by omega) (by omega) (by omega)
end Go.Proofs.Ytnpdfendcffapaa
