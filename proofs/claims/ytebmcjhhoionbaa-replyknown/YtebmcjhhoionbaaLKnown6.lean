/- The walk of the statement ReplyKnown, over what reply's calls answer: it answers true. -/
import Derived.Test.YtebmcjhhoionbaaLCut6
namespace Go.Proofs.Ytebmcjhhoionbaa
open Go.RowKit

/-- Nothing of a result. -/
def xz : X := Rq.skip 0
theorem made17 : (madeCells (Value.agg #[.int .i64 0, .string ⟨#[]⟩, .string ⟨#[]⟩, .slice none 0 0, .int .i64 0, .int .i64 0, .int .i64 0, .int .i64 0, .int .i64 0, .int .i64 0, .int .i64 0]).cells (17 * 11)).toList = xcs (List.replicate 17 (xz, .slice none 0 0)) := by kernel_rfl

set_option maxRecDepth 20000 in
theorem field4 (n z e a : Int) (p : Option Addr) (m c : Nat) (w : World) : (Instr.field 26 (.agg #[.int .i64 n, .int .i64 z, .int .i64 e, .int .i64 a, .slice p m c]) 4).run Try.prog w = .ok (.slice p m c) w := by kernel_rfl

/-- The statement's own results. -/
def xa : X := ⟨0, ⟨#[47, 97]⟩, ⟨#[]⟩, [], 0, 0, 0, 0, 0, 0, 0⟩
def xa7 : X := ⟨0, ⟨#[47, 97]⟩, ⟨#[]⟩, [], 7, 0, 0, 0, 0, 0, 0⟩

/-- A reply of seventeen. -/
def r17 : Rp := ⟨0, 0, 0, 0, List.replicate 17 xz⟩
theorem light17 : ∀ x ∈ r17.xs, Light x := fun x hx => by
  rw [(List.mem_replicate.1 hx).2]
  exact skip_light 0
theorem fit17 : Rq.FitR r17 := ⟨rng0, rng0, rng0, rng0, by decide, fun x hx => by
  rw [(List.mem_replicate.1 hx).2]
  exact skip_fit rng0⟩
theorem none17 (q : Rp) : ¬ Rq.Is (Rq.bytes r17) q := fun h => by
  have e := Rq.bytes_inj h.eq h.fit fit17
  subst e
  have := h.few
  revert this
  decide

set_option maxRecDepth 20000 in
set_option maxHeartbeats 4000000 in
theorem known_any6 (hs : Specs6) (w : World) : Calls Try.prog 3 #[] w fun e w' => e = .returned (.bool true) ∧ Below w.heap.size w w' := by
  have HS : Hid Specs6 := hs
  clear hs
  go_enter Try.func3, Try.ntmps3
  go_wp2_with fail
  refine (awake_any6 HS.out _).mono ?_
  rintro e w1 ⟨rfl, hb⟩
  have HB1 : Hid (Below w.heap.size w w1) := hb
  clear hb
  go_wp2_with fail
  refine (HS.out.get _ [] _ (Bs.nil _) (by decide)).mono ?_
  rintro e w2 ⟨hb, hcase⟩
  have HB2 : Hid (Below w.heap.size w w2) := HB1.out.trans (hb.mono HB1.out.size)
  obtain ⟨u2, rfl, hu2⟩ : ∃ u2, e = .returned (.tuple #[rv Rq.zero u2, .int .i64 3]) ∧ Rl w2 u2 [] := by
    rcases hcase with ⟨r', u', he, hu', his'⟩ | ⟨u', he, hu', _⟩
    · have h := congrArg List.length his'.eq
      unfold Rq.bytes at h
      simp only [List.length_append, Pk.be8_len, List.length_nil] at h
      omega
    · exact ⟨u', he, hu'⟩
  clear hcase hb
  obtain ⟨a2, m2, c2, rfl, hXX⟩ := hu2
  clear hXX
  unfold rv
  have HB3 : Hid (Below w.heap.size w (w2.alloc (.cells #[.int .i64 Rq.zero.num, .int .i64 Rq.zero.zxid, .int .i64 Rq.zero.err, .int .i64 Rq.zero.at_, .slice a2 m2 c2] 26))) := HB2.out.alloc HB2.out.size _
  obtain ⟨w3, hw3⟩ : ∃ W, W = (w2.alloc (.cells #[.int .i64 Rq.zero.num, .int .i64 Rq.zero.zxid, .int .i64 Rq.zero.err, .int .i64 Rq.zero.at_, .slice a2 m2 c2] 26)) := ⟨_, rfl⟩
  rw [← hw3] at HB3
  obtain ⟨io, hio, hz0, hz1, hz2⟩ := info_parts infoResult
  obtain ⟨M, hM⟩ : ∃ M : Nat, (17 : Int) = M := ⟨17, rfl⟩
  have HMM : Hid ((17 : Int) = M) := hM
  clear hM
  obtain ⟨w4, hrun, ho, hgr⟩ := run_make_full (P := Try.prog) w3 w3.heap.size 24 35 io (.agg #[.int .i64 0, .string ⟨#[]⟩, .string ⟨#[]⟩, .slice none 0 0, .int .i64 0, .int .i64 0, .int .i64 0, .int .i64 0, .int .i64 0, .int .i64 0, .int .i64 0]) 11 Try.underlying24 hio hz0 hz1 .i64 .i64 M (by rw [hz2]; have := HMM.out; omega) (by unfold maxLen; have := HMM.out; omega) (Nat.le_refl _)
  rw [← HMM.out] at hrun
  have hb : Below w3.heap.size w3 w4 := (Below.refl _ w3).grown hgr (Nat.le_refl _) (fun k hk => by cases hk)
  have HM17 : Hid (M = 17) := by
    have h : M = 17 := by have := HMM.out; omega
    exact h
  have HL4 : Hid (Rl w4 (.slice (some ⟨w3.heap.size, 0, none⟩) M M) r17.xs) := by
    have e17 := HM17.out
    subst e17
    rw [made17] at ho
    have h : Xo w4 w3.heap.size (.slice (some ⟨w3.heap.size, 0, none⟩) 17 17) (List.replicate 17 (xz, .slice none 0 0)) := ⟨ho, fun p hp => by
      rw [(List.mem_replicate.1 hp).2]
      exact World.ownsRow_nil _ _ _ _⟩
    exact h.rl
  have HB4 : Hid (Below w.heap.size w w4) := HB3.out.trans (hb.mono HB3.out.size)
  clear ho hb hio hz0 hz1 hz2 hgr
  rw [hw3] at hrun
  go_wp2_with fail
  have HL5 : Hid (Rl w4 (.slice (some ⟨w2.heap.size + 1, 0, none⟩) M M) r17.xs) := by
    have h := HL4.out
    rw [hw3, World.size_alloc] at h
    exact h
  clear hrun hw3
  refine (HS.out.put r17 _ _ HL5.out (by decide) light17).mono ?_
  rintro e w5 ⟨v5, rfl, hbs, hb⟩
  have HV5 : Hid (Bs w5 v5 (Rq.bytes r17)) := hbs
  have HB5 : Hid (Below w.heap.size w w5) := HB4.out.trans (hb.mono HB4.out.size)
  clear hbs hb
  go_wp2_with fail
  refine (HS.out.get _ _ _ HV5.out (by have := bytes_light (r := r17) (by decide) light17; omega)).mono ?_
  rintro e w6 ⟨hb, hcase⟩
  have HB6 : Hid (Below w.heap.size w w6) := HB5.out.trans (hb.mono HB5.out.size)
  obtain ⟨u6, rfl, hu6⟩ : ∃ u6, e = .returned (.tuple #[rv Rq.zero u6, .int .i64 3]) ∧ Rl w6 u6 [] := by
    rcases hcase with ⟨r', u', he, hu', his'⟩ | ⟨u', he, hu', _⟩
    · exact absurd his' (none17 _)
    · exact ⟨u', he, hu'⟩
  clear hcase hb
  obtain ⟨a6, m6, c6, rfl, hXX⟩ := hu6
  clear hXX
  unfold rv
  have HX7 : Hid (BoxX ((w6.alloc (.cells #[.int .i64 Rq.zero.num, .int .i64 Rq.zero.zxid, .int .i64 Rq.zero.err, .int .i64 Rq.zero.at_, .slice a6 m6 c6] 26)).alloc (.cells #[.int .i64 0, .string ⟨#[47, 97]⟩, .string ⟨#[]⟩, .slice none 0 0, .int .i64 7, .int .i64 0, .int .i64 0, .int .i64 0, .int .i64 0, .int .i64 0, .int .i64 0] 35)) (w6.heap.size + 1) xa7 (.slice none 0 0)) := by
    have h := BoxX.made (w6.alloc (.cells #[.int .i64 Rq.zero.num, .int .i64 Rq.zero.zxid, .int .i64 Rq.zero.err, .int .i64 Rq.zero.at_, .slice a6 m6 c6] 26)) xa7 (.slice none 0 0) 35
    rw [World.size_alloc] at h
    exact h
  have HB7 : Hid (Below w.heap.size w ((w6.alloc (.cells #[.int .i64 Rq.zero.num, .int .i64 Rq.zero.zxid, .int .i64 Rq.zero.err, .int .i64 Rq.zero.at_, .slice a6 m6 c6] 26)).alloc (.cells #[.int .i64 0, .string ⟨#[47, 97]⟩, .string ⟨#[]⟩, .slice none 0 0, .int .i64 7, .int .i64 0, .int .i64 0, .int .i64 0, .int .i64 0, .int .i64 0, .int .i64 0] 35))) := (HB6.out.alloc HB6.out.size _).alloc (by rw [World.size_alloc]; have := HB6.out.size; omega) _
  go_wp2_with fail
  generalize ((w6.alloc (.cells #[.int .i64 Rq.zero.num, .int .i64 Rq.zero.zxid, .int .i64 Rq.zero.err, .int .i64 Rq.zero.at_, .slice a6 m6 c6] 26)).alloc (.cells #[.int .i64 0, .string ⟨#[47, 97]⟩, .string ⟨#[]⟩, .slice none 0 0, .int .i64 7, .int .i64 0, .int .i64 0, .int .i64 0, .int .i64 0, .int .i64 0, .int .i64 0] 35)) = w7 at *
  obtain ⟨q7, hq7⟩ : ∃ q, q = w6.heap.size + 1 := ⟨_, rfl⟩
  rw [← hq7] at HX7 ⊢
  clear hq7
  refine (HS.out.fail 1 1 0 17 _ (by decide) (by decide)).mono ?_
  rintro e w8 ⟨u8, rfl, hl, hb⟩
  have HB8 : Hid (Below w.heap.size w w8) := HB7.out.trans (hb.mono HB7.out.size)
  have HX8 : Hid (BoxX w8 q7 xa7 (.slice none 0 0)) := HX7.out.below hb
  clear hb
  obtain ⟨a8, m8, c8, rfl, hm, hXX⟩ := hl
  have hm8 : m8 = 0 := hm
  clear hm hXX
  subst hm8
  unfold rv
  have hfd := field4 (Rq.fail 1 1 0 17).num (Rq.fail 1 1 0 17).zxid (Rq.fail 1 1 0 17).err (Rq.fail 1 1 0 17).at_ a8 0 c8
  go_wp2_with fail
  refine (HS.out.fail 1 1 0 (-1) _ (by decide) (by decide)).mono ?_
  rintro e w9 ⟨u9, rfl, hl, hb⟩
  have HB9 : Hid (Below w.heap.size w w9) := HB8.out.trans (hb.mono HB8.out.size)
  have HX9 : Hid (BoxX w9 q7 xa7 (.slice none 0 0)) := HX8.out.below hb
  clear hb
  obtain ⟨a9, m9, c9, rfl, hm, hXX⟩ := hl
  have hm9 : m9 = 0 := hm
  clear hm hXX
  subst hm9
  clear hfd
  unfold rv
  have hfd := field4 (Rq.fail 1 1 0 (-1)).num (Rq.fail 1 1 0 (-1)).zxid (Rq.fail 1 1 0 (-1)).err (Rq.fail 1 1 0 (-1)).at_ a9 0 c9
  obtain ⟨x0, x1, x2, x3, x4, x5, x6, x7, x8, x9, x10⟩ := HX9.out
  simp only [xa7] at x0 x1 x2 x3 x4 x5 x6 x7 x8 x9 x10
  have HB10 : Hid (Below w.heap.size w ((w9.alloc (.cells #[.int .i64 0, .string ⟨#[47, 97]⟩, .string ⟨#[]⟩, .slice none 0 0, .int .i64 7, .int .i64 0, .int .i64 0, .int .i64 0, .int .i64 0, .int .i64 0, .int .i64 0] 35)).alloc (.cells #[.int .i64 0, .string ⟨#[47, 97]⟩, .string ⟨#[]⟩, .slice none 0 0, .int .i64 0, .int .i64 0, .int .i64 0, .int .i64 0, .int .i64 0, .int .i64 0, .int .i64 0] 35))) := (HB9.out.alloc HB9.out.size _).alloc (by rw [World.size_alloc]; have := HB9.out.size; omega) _
  have HL10 : Hid (Rl ((w9.alloc (.cells #[.int .i64 0, .string ⟨#[47, 97]⟩, .string ⟨#[]⟩, .slice none 0 0, .int .i64 7, .int .i64 0, .int .i64 0, .int .i64 0, .int .i64 0, .int .i64 0, .int .i64 0] 35)).alloc (.cells #[.int .i64 0, .string ⟨#[47, 97]⟩, .string ⟨#[]⟩, .slice none 0 0, .int .i64 0, .int .i64 0, .int .i64 0, .int .i64 0, .int .i64 0, .int .i64 0, .int .i64 0] 35)) (.slice (some ⟨w9.heap.size, 0, none⟩) 1 1) [xa7] ∧ Rl ((w9.alloc (.cells #[.int .i64 0, .string ⟨#[47, 97]⟩, .string ⟨#[]⟩, .slice none 0 0, .int .i64 7, .int .i64 0, .int .i64 0, .int .i64 0, .int .i64 0, .int .i64 0, .int .i64 0] 35)).alloc (.cells #[.int .i64 0, .string ⟨#[47, 97]⟩, .string ⟨#[]⟩, .slice none 0 0, .int .i64 0, .int .i64 0, .int .i64 0, .int .i64 0, .int .i64 0, .int .i64 0, .int .i64 0] 35)) (.slice (some ⟨w9.heap.size + 1, 0, none⟩) 1 1) [xa]) := by
    refine ⟨(Rl.one w9 xa7 _ _ (Sq.nil _)).below ((Below.refl _ _).alloc (Nat.le_refl _) _), ?_⟩
    have h := Rl.one (w9.alloc (.cells #[.int .i64 0, .string ⟨#[47, 97]⟩, .string ⟨#[]⟩, .slice none 0 0, .int .i64 7, .int .i64 0, .int .i64 0, .int .i64 0, .int .i64 0, .int .i64 0, .int .i64 0] 35)) xa _ 35 (Sq.nil _)
    rw [World.size_alloc] at h
    exact h
  go_wp2_with fail
  generalize ((w9.alloc (.cells #[.int .i64 0, .string ⟨#[47, 97]⟩, .string ⟨#[]⟩, .slice none 0 0, .int .i64 7, .int .i64 0, .int .i64 0, .int .i64 0, .int .i64 0, .int .i64 0, .int .i64 0] 35)).alloc (.cells #[.int .i64 0, .string ⟨#[47, 97]⟩, .string ⟨#[]⟩, .slice none 0 0, .int .i64 0, .int .i64 0, .int .i64 0, .int .i64 0, .int .i64 0, .int .i64 0, .int .i64 0] 35)) = w10 at *
  refine (HS.out.alike False _ _ [xa7] [xa] _ HL10.out.1 HL10.out.2 (by decide) (by decide) (fun x hx => by simp at hx; subst hx; decide) (fun x hx => by simp at hx; subst hx; decide) ⟨fun h => h.elim, fun h => by
    have h2 := (List.cons.inj h).1
    have h3 := congrArg X.made h2
    exact absurd h3 (by decide)⟩).mono ?_
  rintro e w11 ⟨R, rfl, hR, hb⟩
  have HB11 : Hid (Below w.heap.size w w11) := HB10.out.trans (hb.mono HB10.out.size)
  have hR1 : R = false := by
    cases R with
    | false => rfl
    | true => exact (hR.1 rfl).elim
  subst hR1
  clear hR hb hfd x0 x1 x2 x3 x4 x5 x6 x7 x8 x9 x10
  go_wp2
  go_ret
  exact ⟨rfl, HB11.out⟩
end Go.Proofs.Ytebmcjhhoionbaa
