/- What NetFull answers: its walk. -/
import Derived.Test.YtkldecdjokfajaaLAwake9
import Derived.Deep.DeepCutAuto
namespace Go.Proofs.Ytkldecdjokfajaa
open Go.RowKit

/-- What waits behind k messages. -/
def nf (r k : Nat) : Nq.Nt := ⟨2, r, (List.range (min k r)).map fun (i : Nat) => bare (0, 1, (i : Int)), fun _ _ => false⟩
theorem nf_len (r k : Nat) : (nf r k).l.length = min k r := by unfold nf; simp
theorem nf_zero (r : Nat) : nf r 0 = Nq.made 2 r := by unfold nf Nq.made; simp
theorem nf_may (r k : Nat) : Nq.may (nf r k) (bare (0, 1, (k : Int))) = decide (k < r) := by
  have h0 : Nq.node (nf r k) 0 = true := Nq.node_iff.2 ⟨by decide, by show (0 : Int) < ((2 : Nat) : Int); decide⟩
  have h1 : Nq.node (nf r k) 1 = true := Nq.node_iff.2 ⟨by decide, by show (1 : Int) < ((2 : Nat) : Int); decide⟩
  unfold Nq.may
  rw [show (bare (0, 1, (k : Int))).fr = 0 from rfl, show (bare (0, 1, (k : Int))).to = 1 from rfl, h0, h1, nf_len]
  show (true && true && !false && decide (min k r < r)) = decide (k < r)
  simp only [Bool.not_false, Bool.and_true, Bool.true_and]
  by_cases h : k < r
  · rw [decide_eq_true h, decide_eq_true (by omega)]
  · rw [decide_eq_false h, decide_eq_false (by omega)]
theorem nf_sent (r k : Nat) : Nq.sent (nf r k) [bare (0, 1, (k : Int))] = if k < r then 1 else 0 := by
  unfold Nq.sent Nq.sent
  rw [nf_may]
  simp
theorem nf_next (r k : Nat) : Nq.puts (nf r k) [bare (0, 1, (k : Int))] = nf r (k + 1) := by
  show Nq.put (nf r k) (bare (0, 1, (k : Int))) = nf r (k + 1)
  by_cases h : k < r
  · rw [Nq.put_yes (by rw [nf_may]; exact decide_eq_true h)]
    unfold nf
    rw [show min k r = k by omega, show min (k + 1) r = k + 1 by omega, List.range_succ, List.map_append]
    rfl
  · rw [Nq.put_no (by rw [nf_may]; exact decide_eq_false h)]
    unfold nf
    rw [show min k r = r by omega, show min (k + 1) r = r by omega]
theorem nf_at {r k p : Nat} (h : p < min k r) : Nq.has (nf r k) (p : Int) = true ∧ Nq.at_ (nf r k) (p : Int) = bare (0, 1, (p : Int)) := by
  refine Nq.at_has ?_
  unfold nf
  simp [h]
theorem nf_none {r k : Nat} (h : min k r = 0) (z : Int) : Nq.has (nf r k) z = false := by
  unfold Nq.has
  rw [nf_len, h]
  by_cases hz : 0 ≤ z
  · rw [decide_eq_false (p := z < ((0 : Nat) : Int)) (by omega), Bool.and_false]
  · rw [decide_eq_false hz, Bool.false_and]
theorem nf_copy (r k : Nat) : Nq.mayCopy (nf r k) 0 = (decide (0 < min k r) && decide (min k r < r)) := by
  show (decide ((0 : Int) ≤ 0) && decide ((0 : Int) < ((nf r k).l.length : Int)) && decide ((nf r k).l.length < r)) = _
  rw [nf_len]
  simp

set_option maxRecDepth 20000 in
set_option maxHeartbeats 4000000 in
theorem full_any9 {LN : RepN} (S : Specs9 LN) (room n : Int) (W : World) :
    Calls Try.prog 7 #[.int .i64 room, .int .i64 n] W fun e w' => e = .returned (.bool true) ∧ Below W.heap.size W w' := by
  have HS : Hid (Specs9 LN) := S
  clear S
  obtain ⟨R, hR⟩ : ∃ R : Bool, R = decide (room < 1 ∨ 100 < room ∨ n < 0 ∨ 150 < n) := ⟨_, rfl⟩
  have HR : Hid (R = decide (room < 1 ∨ 100 < room ∨ n < 0 ∨ 150 < n)) := hR
  clear hR
  go_enter Try.func7, Try.ntmps7
  go_wp2_with fail
  refine (awake_any9 HS.out W).mono ?_
  rintro e w0 ⟨rfl, hb⟩
  have B0 : Hid (Below W.heap.size W w0) := hb
  clear hb
  go_upto_region 3 with fail
  go_cut [27] (fun x wx => x = .bool R ∧ wx = w0)
  case first =>
    by_cases h0 : room < 1
    · have H3 : Hid (R = true) := by
        have h : R = true := by rw [HR.out]; exact decide_eq_true (by omega)
        exact h
      have b0 : decide (room < 1) = true := decide_eq_true h0
      go_wp2
      go_meet
      case rel => exact ⟨by rw [H3.out], rfl⟩
    · have b0 : decide (room < 1) = false := decide_eq_false h0
      by_cases h1 : 100 < room
      · have H3 : Hid (R = true) := by
          have h : R = true := by rw [HR.out]; exact decide_eq_true (by omega)
          exact h
        have b1 : decide (100 < room) = true := decide_eq_true h1
        go_wp2
        go_meet
        case rel => exact ⟨by rw [H3.out], rfl⟩
      · have b1 : decide (100 < room) = false := decide_eq_false h1
        by_cases h2 : n < 0
        · have H3 : Hid (R = true) := by
            have h : R = true := by rw [HR.out]; exact decide_eq_true (by omega)
            exact h
          have b2 : decide (n < 0) = true := decide_eq_true h2
          go_wp2
          go_meet
          case rel => exact ⟨by rw [H3.out], rfl⟩
        · have b2 : decide (n < 0) = false := decide_eq_false h2
          by_cases h3 : 150 < n
          · have H3 : Hid (R = true) := by
              have h : R = true := by rw [HR.out]; exact decide_eq_true (by omega)
              exact h
            have b3 : decide (150 < n) = true := decide_eq_true h3
            go_wp2
            go_meet
            case rel => exact ⟨by rw [H3.out], rfl⟩
          · have b3 : decide (150 < n) = false := decide_eq_false h3
            have H3 : Hid (R = false) := by
              have h : R = false := by rw [HR.out]; exact decide_eq_false (by omega)
              exact h
            go_wp2
            go_meet
            case rel => exact ⟨by rw [H3.out], rfl⟩
  case rest =>
    obtain ⟨rfl, hcw⟩ := hcut
    rw [hcw]
    clear hcw wc
    cases hR : R with
    | true =>
      clear hR
      go_wp2
      go_ret
      exact ⟨rfl, B0.out⟩
    | false =>
      have hin := of_decide_eq_false (HR.out.symm.trans hR)
      obtain ⟨r, hr⟩ : ∃ r : Nat, room = (r : Int) := ⟨room.toNat, by omega⟩
      obtain ⟨m, hm⟩ : ∃ m : Nat, n = (m : Int) := ⟨n.toNat, by omega⟩
      subst hr hm
      have HIN : Hid (1 ≤ r ∧ r ≤ 100 ∧ m ≤ 150) := by
        have h : 1 ≤ r ∧ r ≤ 100 ∧ m ≤ 150 := by omega
        exact h
      clear hR hin HR
      go_wp2_with fail
      refine (mine9_new HS.out B0.out 2 (r : Int) (by decide) (by have := HIN.out; omega)).mono ?_
      rintro e w1 ⟨q, F1, rfl, hM⟩
      rw [Int.toNat_natCast] at hM
      have M1 : Hid (Mine9 LN W w1 q (Nq.made 2 r) F1) := hM
      clear hM
      go_wp2
      go_loopw [7, 8] (fun s i wr => ∃ k : Nat, k ≤ m ∧ i = .int .i64 (k : Int) ∧ s = .int .i64 ((min k r : Nat) : Int) ∧ ∃ F, Mine9 LN W wr q (nf r k) F) (fun _ i _ => m - (intOf i).toNat)
      case atStart => exact ⟨0, Nat.zero_le _, rfl, by rw [Nat.zero_min]; rfl, F1, by rw [nf_zero]; exact M1.out⟩
      case round =>
        obtain ⟨k, hk, rfl, rfl, F, hM⟩ := hrel
        have HM : Hid (Mine9 LN W wr q (nf r k) F) := hM
        clear hM
        by_cases hlt : k < m
        · have hlt' : (k : Int) < (m : Int) := by omega
          obtain ⟨x, hx⟩ : ∃ x : Nat, x = min k r := ⟨_, rfl⟩
          obtain ⟨y, hy⟩ : ∃ y : Nat, y = if k < r then 1 else 0 := ⟨_, rfl⟩
          have HXY : Hid (x = min k r ∧ y = (if k < r then 1 else 0) ∧ x + y = min (k + 1) r) := by
            refine ⟨hx, hy, ?_⟩
            rw [hx, hy]
            split <;> omega
          have hin2 := HIN.out
          have hwx : IntKind.wrap .i64 ((x : Int) + (y : Int)) = (x : Int) + (y : Int) := by
            have h1 : y ≤ 1 := by rw [hy]; split <;> omega
            rw [IntKind.wrap_i64]
            omega
          have hwk : IntKind.wrap .i64 ((k : Int) + 1) = (k : Int) + 1 := by rw [IntKind.wrap_i64]; omega
          rw [← hx]
          clear hx hy hin2
          go_wp2_with fail
          refine (HM.out.sendBare HS.out [(0, 1, (k : Int))] _ (by simp) y (nf r (k + 1)) (by rw [HXY.out.2.1]; exact nf_sent r k) (nf_next r k)).mono ?_
          rintro e w2 ⟨F2, rfl, hM⟩
          have M2 : Hid (Mine9 LN W w2 q (nf r (k + 1)) F2) := hM
          clear hM
          go_wp2
          go_roundw
          case rel => exact ⟨k + 1, by omega, by go_num, by rw [← HXY.out.2.2]; go_num, F2, M2.out⟩
          case measure => simp [intOf]; omega
        · have hlt' : ¬ (k : Int) < (m : Int) := by omega
          obtain rfl : k = m := by omega
          have hin2 := HIN.out
          clear hlt hk
          by_cases hA : r < k
          · rw [show min k r = r by omega]
            clear hlt'
            have hgt : (r : Int) < (k : Int) := by omega
            obtain ⟨p, hp0⟩ : ∃ p : Nat, r = p + 1 := ⟨r - 1, by omega⟩
            have HP : Hid (r = p + 1) := hp0
            have hwt : IntKind.wrap .i64 ((r : Int) - 1) = (p : Int) := by rw [IntKind.wrap_i64]; omega
            have ht0 : ((r : Int) == 0) = false := by simp; omega
            have ht1 : (0 : Int) < (r : Int) := by omega
            have HAT := nf_at (r := r) (k := k) (p := p) (by omega)
            have HA : Hid (Nq.at_ (nf r k) (p : Int) = bare (0, 1, (p : Int)) ∧ Nq.has (nf r k) (p : Int) = true) := ⟨HAT.2, HAT.1⟩
            have HLEN : Hid ((nf r k).l.length = r) := by
              have h : (nf r k).l.length = r := by rw [nf_len]; omega
              exact h
            clear HAT hp0
            have HCP : Hid (Nq.mayCopy (nf r k) 0 = false) := by
              have h : Nq.mayCopy (nf r k) 0 = false := by
                rw [nf_copy]
                rw [decide_eq_false (p := min k r < r) (by omega), Bool.and_false]
              exact h
            have hlr : ¬ (r : Int) < (r : Int) := by omega
            go_wp2_with fail
            refine (HM.out.at_ HS.out (p : Int) (bare (0, 1, (p : Int))) true HA.out.1 HA.out.2).mono ?_
            rintro e w3 ⟨a, b, rfl, hp, hM, hbl⟩
            have M3 : Hid (Mine9 LN W w3 q (nf r k) F) := hM
            obtain ⟨av, ka, ca, rfl, hn1, hn2⟩ := hp.ns
            obtain ⟨bv, kb, cb, rfl, hn3, hn4⟩ := hp.bs
            clear hM hbl hp hn1 hn2 hn3 hn4
            unfold mv bare
            go_wp2_with fail
            refine ((M3.out.later HS.out ((Below.refl _ w3).alloc (Nat.le_refl _) _)).len HS.out r HLEN.out).mono ?_
            rintro e w4 ⟨rfl, hM, hbl⟩
            have M4 : Hid (Mine9 LN W w4 q (nf r k) F) := hM
            have HC4 : Hid (w4.cell? ⟨w3.heap.size, 2, none⟩ = some (.int .i64 ((p : Int)))) := Below.kept hbl (cell?_alloc_at _ _ _ _ _ _ rfl)
            clear hM hbl
            have l4 := HC4.out
            go_wp2_with fail
            refine (M4.out.copy HS.out 0 false _ HCP.out rfl).mono ?_
            rintro e w5 ⟨F5, rfl, hM, hmv⟩
            have M5 : Hid (Mine9 LN W w5 q (Nq.copy (nf r k) 0) F5) := hM
            clear hM hmv
            go_wp2
            go_ret
            exact ⟨rfl, M5.out.below⟩
          · rw [show min k r = k by omega]
            by_cases hB : k = 0
            · subst hB
              have hgt : ¬ (r : Int) < (0 : Int) := by omega
              have HLEN : Hid ((nf r 0).l.length = 0) := by
                have h : (nf r 0).l.length = 0 := by rw [nf_len]; omega
                exact h
              have HA : Hid (Nq.at_ (nf r 0) (-1) = Nq.Ms.zero ∧ Nq.has (nf r 0) (-1) = false) := ⟨Nq.at_not (nf_none (by omega) _), nf_none (by omega) _⟩
              have HCP : Hid (Nq.mayCopy (nf r 0) 0 = false) := by
                have h : Nq.mayCopy (nf r 0) 0 = false := by rw [nf_copy, decide_eq_false (p := 0 < min 0 r) (by omega), Bool.false_and]
                exact h
              go_wp2_with fail
              refine (HM.out.at_ HS.out (-1) Nq.Ms.zero false HA.out.1 HA.out.2).mono ?_
              rintro e w3 ⟨a, b, rfl, hp, hM, hbl⟩
              have M3 : Hid (Mine9 LN W w3 q (nf r 0) F) := hM
              obtain ⟨av, ka, ca, rfl, hn1, hn2⟩ := hp.ns
              obtain ⟨bv, kb, cb, rfl, hn3, hn4⟩ := hp.bs
              clear hM hbl hp hn1 hn2 hn3 hn4
              unfold mv Nq.Ms.zero
              go_wp2_with fail
              refine ((M3.out.later HS.out ((Below.refl _ w3).alloc (Nat.le_refl _) _)).len HS.out 0 HLEN.out).mono ?_
              rintro e w4 ⟨rfl, hM, hbl⟩
              have M4 : Hid (Mine9 LN W w4 q (nf r 0) F) := hM
              have HC4 : Hid (w4.cell? ⟨w3.heap.size, 2, none⟩ = some (.int .i64 ((0 : Int)))) := Below.kept hbl (cell?_alloc_at _ _ _ _ _ _ rfl)
              clear hM hbl
              have l4 := HC4.out
              go_wp2_with fail
              refine (M4.out.copy HS.out 0 false _ HCP.out rfl).mono ?_
              rintro e w5 ⟨F5, rfl, hM, hmv⟩
              have M5 : Hid (Mine9 LN W w5 q (Nq.copy (nf r 0) 0) F5) := hM
              clear hM hmv
              go_wp2
              go_ret
              exact ⟨rfl, M5.out.below⟩
            · by_cases hC : k < r
              · have hD := hA
                have hgt : ¬ (r : Int) < (k : Int) := by omega
                obtain ⟨p, hp0⟩ : ∃ p : Nat, k = p + 1 := ⟨k - 1, by omega⟩
                have HP : Hid (k = p + 1) := hp0
                have hwt : IntKind.wrap .i64 ((k : Int) - 1) = (p : Int) := by rw [IntKind.wrap_i64]; omega
                have ht0 : ((k : Int) == 0) = false := by simp; omega
                have ht1 : (0 : Int) < (k : Int) := by omega
                have HAT := nf_at (r := r) (k := k) (p := p) (by omega)
                have HA : Hid (Nq.at_ (nf r k) (p : Int) = bare (0, 1, (p : Int)) ∧ Nq.has (nf r k) (p : Int) = true) := ⟨HAT.2, HAT.1⟩
                have HLEN : Hid ((nf r k).l.length = k) := by
                  have h : (nf r k).l.length = k := by rw [nf_len]; omega
                  exact h
                clear HAT hp0
                have HCP : Hid (Nq.mayCopy (nf r k) 0 = true) := by
                  have h : Nq.mayCopy (nf r k) 0 = true := by
                    rw [nf_copy]
                    rw [decide_eq_true (p := 0 < min k r) (by omega), decide_eq_true (p := min k r < r) (by omega)]; rfl
                  exact h
                have hlr : (k : Int) < (r : Int) := by omega
                go_wp2_with fail
                refine (HM.out.at_ HS.out (p : Int) (bare (0, 1, (p : Int))) true HA.out.1 HA.out.2).mono ?_
                rintro e w3 ⟨a, b, rfl, hp, hM, hbl⟩
                have M3 : Hid (Mine9 LN W w3 q (nf r k) F) := hM
                obtain ⟨av, ka, ca, rfl, hn1, hn2⟩ := hp.ns
                obtain ⟨bv, kb, cb, rfl, hn3, hn4⟩ := hp.bs
                clear hM hbl hp hn1 hn2 hn3 hn4
                unfold mv bare
                go_wp2_with fail
                refine ((M3.out.later HS.out ((Below.refl _ w3).alloc (Nat.le_refl _) _)).len HS.out k HLEN.out).mono ?_
                rintro e w4 ⟨rfl, hM, hbl⟩
                have M4 : Hid (Mine9 LN W w4 q (nf r k) F) := hM
                have HC4 : Hid (w4.cell? ⟨w3.heap.size, 2, none⟩ = some (.int .i64 ((p : Int)))) := Below.kept hbl (cell?_alloc_at _ _ _ _ _ _ rfl)
                clear hM hbl
                have l4 := HC4.out
                go_wp2_with fail
                refine (M4.out.copy HS.out 0 true _ HCP.out rfl).mono ?_
                rintro e w5 ⟨F5, rfl, hM, hmv⟩
                have M5 : Hid (Mine9 LN W w5 q (Nq.copy (nf r k) 0) F5) := hM
                clear hM hmv
                go_wp2
                go_ret
                exact ⟨rfl, M5.out.below⟩
              · have hD := hA
                have hgt : ¬ (r : Int) < (k : Int) := by omega
                obtain ⟨p, hp0⟩ : ∃ p : Nat, k = p + 1 := ⟨k - 1, by omega⟩
                have HP : Hid (k = p + 1) := hp0
                have hwt : IntKind.wrap .i64 ((k : Int) - 1) = (p : Int) := by rw [IntKind.wrap_i64]; omega
                have ht0 : ((k : Int) == 0) = false := by simp; omega
                have ht1 : (0 : Int) < (k : Int) := by omega
                have HAT := nf_at (r := r) (k := k) (p := p) (by omega)
                have HA : Hid (Nq.at_ (nf r k) (p : Int) = bare (0, 1, (p : Int)) ∧ Nq.has (nf r k) (p : Int) = true) := ⟨HAT.2, HAT.1⟩
                have HLEN : Hid ((nf r k).l.length = k) := by
                  have h : (nf r k).l.length = k := by rw [nf_len]; omega
                  exact h
                clear HAT hp0
                have HCP : Hid (Nq.mayCopy (nf r k) 0 = false) := by
                  have h : Nq.mayCopy (nf r k) 0 = false := by
                    rw [nf_copy]
                    rw [decide_eq_false (p := min k r < r) (by omega), Bool.and_false]
                  exact h
                have hlr : ¬ (k : Int) < (r : Int) := by omega
                go_wp2_with fail
                refine (HM.out.at_ HS.out (p : Int) (bare (0, 1, (p : Int))) true HA.out.1 HA.out.2).mono ?_
                rintro e w3 ⟨a, b, rfl, hp, hM, hbl⟩
                have M3 : Hid (Mine9 LN W w3 q (nf r k) F) := hM
                obtain ⟨av, ka, ca, rfl, hn1, hn2⟩ := hp.ns
                obtain ⟨bv, kb, cb, rfl, hn3, hn4⟩ := hp.bs
                clear hM hbl hp hn1 hn2 hn3 hn4
                unfold mv bare
                go_wp2_with fail
                refine ((M3.out.later HS.out ((Below.refl _ w3).alloc (Nat.le_refl _) _)).len HS.out k HLEN.out).mono ?_
                rintro e w4 ⟨rfl, hM, hbl⟩
                have M4 : Hid (Mine9 LN W w4 q (nf r k) F) := hM
                have HC4 : Hid (w4.cell? ⟨w3.heap.size, 2, none⟩ = some (.int .i64 ((p : Int)))) := Below.kept hbl (cell?_alloc_at _ _ _ _ _ _ rfl)
                clear hM hbl
                have l4 := HC4.out
                go_wp2_with fail
                refine (M4.out.copy HS.out 0 false _ HCP.out rfl).mono ?_
                rintro e w5 ⟨F5, rfl, hM, hmv⟩
                have M5 : Hid (Mine9 LN W w5 q (Nq.copy (nf r k) 0) F5) := hM
                clear hM hmv
                go_wp2
                go_ret
                exact ⟨rfl, M5.out.below⟩
end Go.Proofs.Ytkldecdjokfajaa
