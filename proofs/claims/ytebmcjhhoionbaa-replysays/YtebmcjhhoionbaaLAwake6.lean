/- What the statements' own 'awake' answers, over what reply's calls answer. -/
import Derived.Test.YtebmcjhhoionbaaSpecs6
namespace Go.Proofs.Ytebmcjhhoionbaa
open Go.RowKit

/-- The statements' own failure. -/
def f0 : Rp := ⟨5, 0, 5, 1, [Rq.skip 14, Rq.skip 5]⟩
theorem f0_eq : Rq.fail 5 5 1 2 = f0 := by
  unfold Rq.fail f0
  rw [if_neg (by omega)]
  rfl
theorem f0_light : ∀ x ∈ f0.xs, Light x := fun x hx => by
  have h := (fail_few 5 5 1 2).2
  rw [f0_eq] at h
  exact h x hx
theorem f0_is : Rq.Is (Rq.bytes f0) f0 := is_of ⟨⟨by decide, by decide⟩, rng0, ⟨by decide, by decide⟩, ⟨by decide, by decide⟩, by decide, fun x hx => by
  unfold f0 at hx
  simp only [List.mem_cons, List.not_mem_nil, or_false] at hx
  rcases hx with rfl | rfl
  · exact skip_fit ⟨by decide, by decide⟩
  · exact skip_fit ⟨by decide, by decide⟩⟩ (by decide) f0_light

set_option maxRecDepth 20000 in
set_option maxHeartbeats 2000000 in
theorem awake_any6 (hs : Specs6) (w : World) : Calls Try.prog 9 #[] w fun e w' => e = .returned (.bool true) ∧ Below w.heap.size w w' := by
  have HS : Hid Specs6 := hs
  clear hs
  go_enter Try.func9, Try.ntmps9
  go_wp2_with fail
  refine (HS.out.fail 5 5 1 2 _ (by decide) (by decide)).mono ?_
  rintro e w1 ⟨u1, rfl, hl, hb⟩
  rw [f0_eq] at hl ⊢
  have HL1 : Hid (Rl w1 u1 f0.xs) := hl
  have HB1 : Hid (Below w.heap.size w w1) := hb
  clear hb
  obtain ⟨a1, m1, c1, rfl, hm, hX⟩ := hl
  have hm1 : m1 = 2 := hm
  clear hm hX
  subst hm1
  unfold rv f0
  simp only []
  have hal : Below w1.heap.size w1 (w1.alloc (.cells #[.int .i64 5, .int .i64 0, .int .i64 5, .int .i64 1, .slice a1 2 c1] 26)) := (Below.refl _ w1).alloc (Nat.le_refl _) _
  have HB2 : Hid (Below w.heap.size w (w1.alloc (.cells #[.int .i64 5, .int .i64 0, .int .i64 5, .int .i64 1, .slice a1 2 c1] 26))) := HB1.out.trans (hal.mono HB1.out.size)
  have HL2 : Hid (Rl (w1.alloc (.cells #[.int .i64 5, .int .i64 0, .int .i64 5, .int .i64 1, .slice a1 2 c1] 26)) (.slice a1 2 c1) f0.xs) := HL1.out.below hal
  have HX2 : Hid (BoxR (w1.alloc (.cells #[.int .i64 5, .int .i64 0, .int .i64 5, .int .i64 1, .slice a1 2 c1] 26)) w1.heap.size f0 (.slice a1 2 c1)) := BoxR.made w1 f0 _ _
  clear hal
  go_wp2_with fail
  obtain ⟨q1, hq1⟩ : ∃ q, q = w1.heap.size := ⟨_, rfl⟩
  rw [← hq1] at HX2 ⊢
  clear hq1
  generalize w1.alloc (.cells #[.int .i64 5, .int .i64 0, .int .i64 5, .int .i64 1, .slice a1 2 c1] 26) = w2 at *
  refine (HS.out.put f0 _ _ HL2.out (by decide) f0_light).mono ?_
  rintro e w3 ⟨v3, rfl, hbs, hb⟩
  have HV3 : Hid (Bs w3 v3 (Rq.bytes f0)) := hbs
  have HB3 : Hid (Below w.heap.size w w3) := HB2.out.trans (hb.mono HB2.out.size)
  have HL3 : Hid (Rl w3 (.slice a1 2 c1) f0.xs) := HL2.out.below hb
  have HX3 : Hid (BoxR w3 q1 f0 (.slice a1 2 c1)) := HX2.out.below hb
  clear hbs hb
  go_wp2_with fail
  refine (HS.out.get v3 _ _ HV3.out (by have := bytes_light (r := f0) (by decide) f0_light; omega)).mono ?_
  rintro e w4 ⟨hb, hcase⟩
  have HB4 : Hid (Below w.heap.size w w4) := HB3.out.trans (hb.mono HB3.out.size)
  have HL4 : Hid (Rl w4 (.slice a1 2 c1) f0.xs) := HL3.out.below hb
  have HX4 : Hid (BoxR w4 q1 f0 (.slice a1 2 c1)) := HX3.out.below hb
  obtain ⟨u4, rfl, hu4⟩ : ∃ u4, e = .returned (.tuple #[rv f0 u4, .int .i64 0]) ∧ Rl w4 u4 f0.xs := by
    rcases hcase with ⟨r, u, he, hu, his⟩ | ⟨_, _, _, hno⟩
    · obtain rfl := Rq.is_inj his f0_is
      exact ⟨u, he, hu⟩
    · exact absurd f0_is (hno _)
  have HU4 : Hid (Rl w4 u4 f0.xs) := hu4
  clear hb hcase
  obtain ⟨a4, m4, c4, rfl, hm, hX⟩ := hu4
  clear hm hX
  unfold rv f0
  simp only []
  have hal : Below w4.heap.size w4 (w4.alloc (.cells #[.int .i64 5, .int .i64 0, .int .i64 5, .int .i64 1, .slice a4 m4 c4] 26)) := (Below.refl _ w4).alloc (Nat.le_refl _) _
  have HB5 : Hid (Below w.heap.size w (w4.alloc (.cells #[.int .i64 5, .int .i64 0, .int .i64 5, .int .i64 1, .slice a4 m4 c4] 26))) := HB4.out.trans (hal.mono HB4.out.size)
  have HL5 : Hid (Rl (w4.alloc (.cells #[.int .i64 5, .int .i64 0, .int .i64 5, .int .i64 1, .slice a4 m4 c4] 26)) (.slice a1 2 c1) f0.xs) := HL4.out.below hal
  have HX5 : Hid (BoxR (w4.alloc (.cells #[.int .i64 5, .int .i64 0, .int .i64 5, .int .i64 1, .slice a4 m4 c4] 26)) q1 f0 (.slice a1 2 c1)) := HX4.out.below hal
  have HU5 : Hid (Rl (w4.alloc (.cells #[.int .i64 5, .int .i64 0, .int .i64 5, .int .i64 1, .slice a4 m4 c4] 26)) (.slice a4 m4 c4) f0.xs) := HU4.out.below hal
  have HY5 : Hid (BoxR (w4.alloc (.cells #[.int .i64 5, .int .i64 0, .int .i64 5, .int .i64 1, .slice a4 m4 c4] 26)) w4.heap.size f0 (.slice a4 m4 c4)) := BoxR.made w4 f0 _ _
  clear hal
  obtain ⟨x0, x1, x2, x3, x4⟩ := HX5.out
  obtain ⟨z0, z1, z2, z3, z4⟩ := HY5.out
  simp only [f0] at x0 x1 x2 x3 x4 z0 z1 z2 z3 z4
  obtain ⟨g, o, cc, hv, hcc, hat⟩ := HL5.out.at (by decide)
  have ha := (Value.slice.inj hv).1
  clear hv
  subst ha
  obtain ⟨nv0, _, hat0⟩ := hat 0 (Rq.skip 14) rfl
  obtain ⟨nv1, _, hat1⟩ := hat 1 (Rq.skip 5) rfl
  have e0 := hat0.c0
  have e1 := hat1.c0
  simp only [Rq.skip, Nat.zero_mul, Nat.add_zero, Nat.one_mul] at e0 e1
  clear hat hat0 hat1 hcc
  go_wp2_with fail
  obtain ⟨q4, hq4⟩ : ∃ q, q = w4.heap.size := ⟨_, rfl⟩
  rw [← hq4] at *
  clear hq4
  clear x0 x1 x2 x3 x4 z0 z1 z2 z3 z4 e0 e1
  generalize w4.alloc (.cells #[.int .i64 5, .int .i64 0, .int .i64 5, .int .i64 1, .slice a4 m4 c4] 26) = w5 at *
  refine (HS.out.same True f0 f0 _ _ _ HU5.out HL5.out (by decide) (by decide) (few_light f0_light) (few_light f0_light) ⟨fun _ => rfl, fun _ => trivial⟩).mono ?_
  rintro e w6 ⟨R, rfl, hR, hb⟩
  have hR1 : R = true := hR.2 trivial
  subst hR1
  have HB6 : Hid (Below w.heap.size w w6) := HB5.out.trans (hb.mono HB5.out.size)
  clear hb hR
  go_wp2
  go_ret
  exact ⟨rfl, HB6.out⟩
end Go.Proofs.Ytebmcjhhoionbaa
