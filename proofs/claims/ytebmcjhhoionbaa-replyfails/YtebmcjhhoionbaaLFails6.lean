/- The walk of the statement ReplyFails, over what reply's calls answer: it answers true. -/
import Derived.Test.YtebmcjhhoionbaaLAwake6
namespace Go.Proofs.Ytebmcjhhoionbaa
open Go.RowKit

theorem fails_get (e at_ : Int) (n k : Nat) (h : k < n) : (Rq.fails e at_ n)[k]? = some (Rq.skip (if (k : Int) = at_ then e else 14)) := by
  unfold Rq.fails
  rw [List.getElem?_map, List.getElem?_range h]
  rfl

set_option maxRecDepth 20000 in
set_option maxHeartbeats 4000000 in
theorem fails_any6 (hs : Specs6) (num e at_ n : Int) (w : World) (hn : -9223372036854775808 ≤ n ∧ n ≤ 9223372036854775807) :
    Calls Try.prog 7 #[.int .i64 num, .int .i64 e, .int .i64 at_, .int .i64 n] w fun ed w' => ed = .returned (.bool true) ∧ Below w.heap.size w w' := by
  have HS : Hid Specs6 := hs
  clear hs
  obtain ⟨hn1, hn2⟩ := hn
  go_enter Try.func7, Try.ntmps7
  go_wp2_with fail
  refine (awake_any6 HS.out _).mono ?_
  rintro ed w1 ⟨rfl, hb⟩
  have HB1 : Hid (Below w.heap.size w w1) := hb
  clear hb
  by_cases h0 : n < 0
  · go_wp2
    go_ret
    exact ⟨rfl, HB1.out⟩
  by_cases h16 : 16 < n
  · go_wp2
    go_ret
    exact ⟨rfl, HB1.out⟩
  by_cases h14 : e = 14
  · go_wp2
    go_ret
    exact ⟨rfl, HB1.out⟩
  have h14' : (e == 14) = false := beq_eq_false_iff_ne.2 h14
  go_wp2_with fail
  refine (HS.out.fail num e at_ n _ hn1 hn2).mono ?_
  rintro ed w2 ⟨u, rfl, hl, hb⟩
  obtain ⟨N, rfl⟩ : ∃ N : Nat, n = N := ⟨n.toNat, by omega⟩
  have hf : Rq.fail num e at_ (N : Int) = ⟨num, 0, e, at_, Rq.fails e at_ N⟩ := by
    unfold Rq.fail
    rw [if_neg (by omega)]
    rfl
  rw [hf] at hl ⊢
  clear hf
  have HL2 : Hid (Rl w2 u (Rq.fails e at_ N)) := hl
  have HB2 : Hid (Below w.heap.size w w2) := HB1.out.trans (hb.mono HB1.out.size)
  clear hb
  obtain ⟨au, m, cu, rfl, hm, hX⟩ := hl
  have hmN : m = N := by rw [hm]; exact fails_len e at_ N
  clear hm hX
  subst hmN
  unfold rv
  simp only []
  have hal : Below w2.heap.size w2 (w2.alloc (.cells #[.int .i64 num, .int .i64 0, .int .i64 e, .int .i64 at_, .slice au m cu] 26)) := (Below.refl _ w2).alloc (Nat.le_refl _) _
  have HB3 : Hid (Below w.heap.size w (w2.alloc (.cells #[.int .i64 num, .int .i64 0, .int .i64 e, .int .i64 at_, .slice au m cu] 26))) := HB2.out.trans (hal.mono HB2.out.size)
  have HL3 : Hid (Rl (w2.alloc (.cells #[.int .i64 num, .int .i64 0, .int .i64 e, .int .i64 at_, .slice au m cu] 26)) (.slice au m cu) (Rq.fails e at_ m)) := HL2.out.below hal
  have HX3 : Hid (BoxR (w2.alloc (.cells #[.int .i64 num, .int .i64 0, .int .i64 e, .int .i64 at_, .slice au m cu] 26)) w2.heap.size ⟨num, 0, e, at_, []⟩ (.slice au m cu)) := BoxR.made w2 ⟨num, 0, e, at_, []⟩ _ _
  clear hal
  obtain ⟨x0, x1, x2, x3, x4⟩ := HX3.out
  simp only [] at x0 x1 x2 x3 x4
  go_wp2
  clear x0 x1 x2 x3 x4
  obtain ⟨q, hq⟩ : ∃ q, q = w2.heap.size := ⟨_, rfl⟩
  rw [← hq] at HX3 ⊢
  clear hq
  generalize w2.alloc (.cells #[.int .i64 num, .int .i64 0, .int .i64 e, .int .i64 at_, .slice au m cu] 26) = w3 at *
  go_loopw [10] (fun i wr => ∃ k : Nat, k ≤ m ∧ i = .int .i64 (k : Int) ∧ wr = w3) (fun i _ => ((m : Int) - intOf i).toNat)
  case atStart => exact ⟨0, Nat.zero_le _, rfl, rfl⟩
  case round =>
    obtain ⟨k, hk, rfl, hw⟩ := hrel
    subst hw
    by_cases hlt : k < m
    · have hlt' : (k : Int) < (m : Int) := by omega
      obtain ⟨g, o, cc, hv, hcc, hat⟩ := HL3.out.at (by rw [fails_len]; omega)
      have ha := (Value.slice.inj hv).1
      have hc2 := (Value.slice.inj hv).2.2
      rw [fails_len] at hcc
      clear hv
      subst ha hc2
      obtain ⟨nv, _, hak⟩ := hat k _ (fails_get e at_ m k hlt)
      clear hat
      obtain ⟨x0, x1, x2, x3, x4⟩ := HX3.out
      simp only [] at x0 x1 x2 x3 x4
      by_cases hka : (k : Int) = at_
      · rw [if_pos hka] at hak
        have e0 := hak.c0
        have e1 := hak.c1
        have e6 := hak.c6
        simp only [Rq.skip] at e0 e1 e6
        clear hak
        subst hka
        go_wp2
        go_roundw
        case rel => exact ⟨k + 1, by omega, by go_num, trivial⟩
        case measure => simp [intOf]; omega
      · rw [if_neg hka] at hak
        have e0 := hak.c0
        have e1 := hak.c1
        have e6 := hak.c6
        simp only [Rq.skip] at e0 e1 e6
        clear hak
        have hka' : ((k : Int) == at_) = false := beq_eq_false_iff_ne.2 hka
        have h14'' : ((14 : Int) == e) = false := beq_eq_false_iff_ne.2 (fun h => h14 h.symm)
        go_wp2
        go_roundw
        case rel => exact ⟨k + 1, by omega, by go_num, trivial⟩
        case measure => simp [intOf]; omega
    · have hlt' : ¬ (k : Int) < (m : Int) := by omega
      go_wp2
      go_ret
      exact ⟨rfl, HB3.out⟩
end Go.Proofs.Ytebmcjhhoionbaa
