/- The walk of the statement PackKnown: it answers true. -/
import Derived.Test.YteloehalobampaaWBs
namespace Go.Proofs.Yteloehalobampaa
open Go.RowKit

theorem two_bi (w : World) (t : TypeId) : Bi (w.alloc (.cells #[.int .i64 (-1), .int .i64 7] t)) (.slice (some ⟨w.heap.size, 0, none⟩) 2 2) [-1, 7] := by
  refine Or.inr ⟨w.heap.size, 0, 2, 2, rfl, rfl, ?_⟩
  intro j z hz
  match j, hz with
  | 0, hz => simp at hz; subst hz; simp
  | 1, hz => simp at hz; subst hz; simp

theorem known_t : Pk.rT 1 [0, 0, 0, 0, 0, 0, 0, 2, 97, 98] false = ([], [], true) := by decide
theorem known_flat : ([] : List UInt8) ++ ([-1, 7] : List Int).flatMap Pk.be8 = Pk.be8 (-1) ++ Pk.be8 7 := by simp
theorem known_c : Pk.rC 6 (Pk.be8 7) false = (0, [], true) := by decide

set_option maxHeartbeats 1000000 in
theorem known_any (w : World) : Calls Try.prog 3 #[] w fun e w' => e = .returned (.bool true) ∧ Below w.heap.size w w' := by
  go_enter Try.func3, Try.ntmps3
  go_wp2_with fail
  refine (awake_any _).mono ?_
  rintro e w1 ⟨rfl, hb⟩
  have HB1 : Hid (Below w.heap.size w w1) := hb
  clear hb
  go_wp2_with fail
  refine (text_bs _ [] _ _ (Bs.nil _) (by decide) (by decide)).mono ?_
  rintro e w2 ⟨v, rfl, hbs, hb⟩
  have HS : Hid (Bs w2 v [0, 0, 0, 0, 0, 0, 0, 2, 97, 98]) := by
    have h : Bs w2 v ([] ++ Pk.txt [97, 98]) := hbs
    rw [ab_txt] at h
    exact h
  have HB2 : Hid (Below w.heap.size w w2) := HB1.out.trans (hb.mono HB1.out.size)
  clear hbs hb
  go_wp2_with fail
  refine (read_bs v _ _ HS.out (by decide)).mono ?_
  rintro e w3 ⟨q1, rfl, hq, hr, hb⟩
  have HR3 : Hid (Rd w3 q1 [0, 0, 0, 0, 0, 0, 0, 2, 97, 98] false) := hr
  have HB3 : Hid (Below w.heap.size w w3) := HB2.out.trans (hb.mono HB2.out.size)
  have HQ1 : Hid (w.heap.size ≤ q1) := Nat.le_trans HB2.out.size hq
  clear hb hr hq
  go_wp2_with fail
  refine (rText_any q1 _ _ _ _ HR3.out).mono ?_
  rintro e w4 ⟨rfl, hr, hg⟩
  rw [known_t] at hr ⊢
  have HR4 : Hid (Rd w4 q1 [] true) := hr
  have HB4 : Hid (Below w.heap.size w w4) := Below.reader HB3.out hg (Nat.le_refl _) HQ1.out
  clear hr hg
  go_wp2_with fail
  refine (rI64_any q1 _ _ _ HR4.out).mono ?_
  rintro e w5 ⟨rfl, hr, hg⟩
  have HR5 : Hid (Rd w5 q1 [] true) := hr
  have HB5 : Hid (Below w.heap.size w w5) := Below.reader HB4.out hg (Nat.le_refl _) HQ1.out
  clear hr hg
  go_wp2_with fail
  refine (all_bs _ _ [] [-1, 7] _ (Bs.nil _) (two_bi _ _) (by decide) (by decide)).mono ?_
  rintro e w6 ⟨v2, rfl, hbs, hb⟩
  rw [known_flat] at hbs
  have HS6 : Hid (Bs w6 v2 (Pk.be8 (-1) ++ Pk.be8 7)) := hbs
  have hb5 : Below w5.heap.size w5 w6 := ((Below.refl _ w5).alloc (Nat.le_refl _) _).trans (hb.mono (by simp))
  have HR6 : Hid (Rd w6 q1 [] true) := HR5.out.below hb5
  have HB6 : Hid (Below w.heap.size w w6) := HB5.out.trans (hb5.mono HB5.out.size)
  clear hbs hb hb5
  go_wp2_with fail
  refine (read_bs v2 _ _ HS6.out (by decide)).mono ?_
  rintro e w7 ⟨q2, rfl, hq, hr, hb⟩
  have HS7 : Hid (Rd w7 q2 (Pk.be8 (-1) ++ Pk.be8 7) false) := hr
  have HR7 : Hid (Rd w7 q1 [] true) := HR6.out.below hb
  have HB7 : Hid (Below w.heap.size w w7) := HB6.out.trans (hb.mono HB6.out.size)
  have HQ2 : Hid (w.heap.size ≤ q2) := Nat.le_trans HB6.out.size hq
  have HQ12 : Hid (q1 < q2) := Nat.lt_of_lt_of_le HR6.out.lt hq
  clear hb hr hq
  go_wp2_with fail
  refine (rI64_any q2 _ _ _ HS7.out).mono ?_
  rintro e w8 ⟨rfl, hr, hg⟩
  rw [Pk.rI_be8 _ _ _ (by decide) (by decide)] at hr ⊢
  have HS8 : Hid (Rd w8 q2 (Pk.be8 7) false) := hr
  have HR8 : Hid (Rd w8 q1 [] true) := HR7.out.grown hg HQ12.out
  have HB8 : Hid (Below w.heap.size w w8) := Below.reader HB7.out hg (Nat.le_refl _) HQ2.out
  clear hr hg
  go_wp2_with fail
  refine (rCount_any q2 _ _ _ _ HS8.out).mono ?_
  rintro e w9 ⟨rfl, hr, hg⟩
  rw [known_c] at hr ⊢
  have HS9 : Hid (Rd w9 q2 [] true) := hr
  have HR9 : Hid (Rd w9 q1 [] true) := HR8.out.grown hg HQ12.out
  have HB9 : Hid (Below w.heap.size w w9) := Below.reader HB8.out hg (Nat.le_refl _) HQ2.out
  clear hr hg
  go_wp2_with fail
  refine (read_bs _ [] _ (Bs.nil _) (by decide)).mono ?_
  rintro e w10 ⟨q3, rfl, hq, hr, hb⟩
  have HT10 : Hid (Rd w10 q3 [] false) := hr
  have HS10 : Hid (Rd w10 q2 [] true) := HS9.out.below hb
  have HR10 : Hid (Rd w10 q1 [] true) := HR9.out.below hb
  have HB10 : Hid (Below w.heap.size w w10) := HB9.out.trans (hb.mono HB9.out.size)
  have HQ3 : Hid (w.heap.size ≤ q3) := Nat.le_trans HB9.out.size hq
  clear hb hr hq
  go_wp2_with fail
  refine (rBad_any q1 _ _ _ HR10.out).mono ?_
  rintro e wx ⟨rfl, hw⟩
  rw [hw]; clear hw wx
  go_wp2_with fail
  refine (rEnd_any q1 _ _ _ HR10.out).mono ?_
  rintro e wx ⟨rfl, hw⟩
  rw [hw]; clear hw wx
  go_wp2_with fail
  refine (rBad_any q2 _ _ _ HS10.out).mono ?_
  rintro e wx ⟨rfl, hw⟩
  rw [hw]; clear hw wx
  go_wp2_with fail
  refine (rEnd_any q3 _ _ _ HT10.out).mono ?_
  rintro e wx ⟨rfl, hw⟩
  rw [hw]; clear hw wx
  go_wp2_with fail
  refine (rBad_any q3 _ _ _ HT10.out).mono ?_
  rintro e wx ⟨rfl, hw⟩
  rw [hw]; clear hw wx
  go_wp2_with fail
  refine (rText_any q3 _ _ _ _ HT10.out).mono ?_
  rintro e w11 ⟨rfl, hr, hg⟩
  have HT11 : Hid (Rd w11 q3 [] true) := hr
  have HB11 : Hid (Below w.heap.size w w11) := Below.reader HB10.out hg (Nat.le_refl _) HQ3.out
  rw [show (Pk.rT 9 [] false).1 = [] from by decide]
  clear hr hg
  go_wp2_with fail
  refine (rBad_any q3 _ _ _ HT11.out).mono ?_
  rintro e wx ⟨rfl, hw⟩
  rw [hw]; clear hw wx
  go_wp2_with fail
  refine (all_bs _ _ [] [] _ (Bs.nil _) (Or.inl ⟨none, 0, rfl, rfl⟩) (by decide) (by decide)).mono ?_
  rintro e w12 ⟨v3, rfl, hbs, hb⟩
  obtain ⟨ao, n, c, rfl, hn, _⟩ := hbs
  obtain rfl : n = 0 := hn
  have HB12 : Hid (Below w.heap.size w w12) := HB11.out.trans (hb.mono HB11.out.size)
  clear hb
  go_wp2
  go_ret
  exact ⟨rfl, HB12.out⟩
end Go.Proofs.Yteloehalobampaa
