/- What NetCuts answers: its walk. -/
import Derived.Test.YtkldecdjokfajaaLAwake9
import Derived.Deep.DeepCutAuto
namespace Go.Proofs.Ytkldecdjokfajaa
open Go.RowKit

theorem cuts_sent {a b c d : Int} (ha : 0 ≤ a ∧ a ≤ 4) (hb : 0 ≤ b ∧ b ≤ 4) (hc : 0 ≤ c ∧ c ≤ 4) (hd : 0 ≤ d ∧ d ≤ 4) : Nq.sent (Nq.cutW (Nq.made 5 100) a b true) [bare (c, d, 0)] = if (a == c && b == d || a == d && b == c) = true then 0 else 1 := by
  have na : Nq.node (Nq.made 5 100) a = true := Nq.node_iff.2 ⟨ha.1, by show a < 5; omega⟩
  have nb : Nq.node (Nq.made 5 100) b = true := Nq.node_iff.2 ⟨hb.1, by show b < 5; omega⟩
  have nc : ∀ f, Nq.node ⟨5, 100, [], f⟩ c = true := fun f => Nq.node_iff.2 ⟨hc.1, by show c < 5; omega⟩
  have nd : ∀ f, Nq.node ⟨5, 100, [], f⟩ d = true := fun f => Nq.node_iff.2 ⟨hd.1, by show d < 5; omega⟩
  have hn : Nq.cutW (Nq.made 5 100) a b true = ⟨5, 100, [], fun x y => if (x = a.toNat ∧ y = b.toNat) ∨ (x = b.toNat ∧ y = a.toNat) then true else false⟩ := by
    unfold Nq.cutW
    rw [na, nb]
    rfl
  rw [hn]
  unfold Nq.sent Nq.sent Nq.may bare
  simp only [nc, nd, Bool.true_and, List.length_nil, Nat.add_zero]
  by_cases h : (c.toNat = a.toNat ∧ d.toNat = b.toNat) ∨ (c.toNat = b.toNat ∧ d.toNat = a.toNat)
  · have h2 : (a == c && b == d || a == d && b == c) = true := by
      simp only [Bool.or_eq_true, Bool.and_eq_true, beq_iff_eq]
      omega
    rw [if_pos h, if_pos h2]
    rfl
  · have h2 : ¬ (a == c && b == d || a == d && b == c) = true := by
      simp only [Bool.or_eq_true, Bool.and_eq_true, beq_iff_eq]
      omega
    rw [if_neg h, if_neg h2]
    rfl
theorem cuts_two {n : Nq.Nt} {a b : Int} (hn : n.nodes = 5 ∧ n.room = 100 ∧ n.l.length ≤ 1) (ha : 0 ≤ a ∧ a ≤ 4) (hb : 0 ≤ b ∧ b ≤ 4) : Nq.sent (Nq.heal n) [bare (a, b, 0), bare (b, a, 0)] = 2 := by
  have key : ∀ (m : Nq.Nt) (x y : Int), m.nodes = 5 → m.room = 100 → m.l.length ≤ 2 → m.cut = (fun _ _ => false) → (0 ≤ x ∧ x ≤ 4) → (0 ≤ y ∧ y ≤ 4) → Nq.may m (bare (x, y, 0)) = true := fun m x y h1 h2 h3 h4 hx hy => by
    refine Nq.may_iff.2 ⟨Nq.node_iff.2 ⟨hx.1, ?_⟩, Nq.node_iff.2 ⟨hy.1, ?_⟩, ?_, ?_⟩
    · show x < (m.nodes : Int)
      rw [h1]
      omega
    · show y < (m.nodes : Int)
      rw [h1]
      omega
    · rw [h4]
    · rw [h2]
      omega
  have k1 := key (Nq.heal n) a b hn.1 hn.2.1 (by show n.l.length ≤ 2; omega) rfl ha hb
  have k2 := key (Nq.put (Nq.heal n) (bare (a, b, 0))) b a (by rw [(Nq.put_room _ _).2]; exact hn.1) (by rw [(Nq.put_room _ _).1]; exact hn.2.1) (by have h := (Nq.put_len (Nq.heal n) (bare (a, b, 0))).2; have h2 : (Nq.heal n).l.length ≤ 1 := hn.2.2; omega) (by rw [Nq.put_yes k1]; rfl) hb ha
  unfold Nq.sent Nq.sent Nq.sent
  rw [k1, k2]
  rfl

set_option maxRecDepth 20000 in
set_option maxHeartbeats 4000000 in
theorem cuts_any9 {LN : RepN} (S : Specs9 LN) (a b c d : Int) (W : World) :
    Calls Try.prog 6 #[.int .i64 a, .int .i64 b, .int .i64 c, .int .i64 d] W fun e w' => e = .returned (.bool true) ∧ Below W.heap.size W w' := by
  have HS : Hid (Specs9 LN) := S
  clear S
  obtain ⟨R, hR⟩ : ∃ R : Bool, R = decide (a < 0 ∨ 4 < a ∨ b < 0 ∨ 4 < b ∨ c < 0 ∨ 4 < c ∨ d < 0 ∨ 4 < d) := ⟨_, rfl⟩
  have HR : Hid (R = decide (a < 0 ∨ 4 < a ∨ b < 0 ∨ 4 < b ∨ c < 0 ∨ 4 < c ∨ d < 0 ∨ 4 < d)) := hR
  clear hR
  obtain ⟨C, hC⟩ : ∃ C : Bool, C = (a == c && b == d || a == d && b == c) := ⟨_, rfl⟩
  have HC : Hid (C = (a == c && b == d || a == d && b == c)) := hC
  clear hC
  go_enter Try.func6, Try.ntmps6
  go_wp2_with fail
  refine (awake_any9 HS.out W).mono ?_
  rintro e w0 ⟨rfl, hb⟩
  have B0 : Hid (Below W.heap.size W w0) := hb
  clear hb
  go_upto_region 3 with fail
  go_cut [45] (fun x wx => x = .bool R ∧ wx = w0)
  case first =>
    by_cases h0 : a < 0
    · have H3 : Hid (R = true) := by
        have h : R = true := by rw [HR.out]; exact decide_eq_true (by omega)
        exact h
      have b0 : decide (a < 0) = true := decide_eq_true h0
      go_wp2
      go_meet
      case rel => exact ⟨by rw [H3.out], rfl⟩
    · have b0 : decide (a < 0) = false := decide_eq_false h0
      by_cases h1 : 4 < a
      · have H3 : Hid (R = true) := by
          have h : R = true := by rw [HR.out]; exact decide_eq_true (by omega)
          exact h
        have b1 : decide (4 < a) = true := decide_eq_true h1
        go_wp2
        go_meet
        case rel => exact ⟨by rw [H3.out], rfl⟩
      · have b1 : decide (4 < a) = false := decide_eq_false h1
        by_cases h2 : b < 0
        · have H3 : Hid (R = true) := by
            have h : R = true := by rw [HR.out]; exact decide_eq_true (by omega)
            exact h
          have b2 : decide (b < 0) = true := decide_eq_true h2
          go_wp2
          go_meet
          case rel => exact ⟨by rw [H3.out], rfl⟩
        · have b2 : decide (b < 0) = false := decide_eq_false h2
          by_cases h3 : 4 < b
          · have H3 : Hid (R = true) := by
              have h : R = true := by rw [HR.out]; exact decide_eq_true (by omega)
              exact h
            have b3 : decide (4 < b) = true := decide_eq_true h3
            go_wp2
            go_meet
            case rel => exact ⟨by rw [H3.out], rfl⟩
          · have b3 : decide (4 < b) = false := decide_eq_false h3
            by_cases h4 : c < 0
            · have H3 : Hid (R = true) := by
                have h : R = true := by rw [HR.out]; exact decide_eq_true (by omega)
                exact h
              have b4 : decide (c < 0) = true := decide_eq_true h4
              go_wp2
              go_meet
              case rel => exact ⟨by rw [H3.out], rfl⟩
            · have b4 : decide (c < 0) = false := decide_eq_false h4
              by_cases h5 : 4 < c
              · have H3 : Hid (R = true) := by
                  have h : R = true := by rw [HR.out]; exact decide_eq_true (by omega)
                  exact h
                have b5 : decide (4 < c) = true := decide_eq_true h5
                go_wp2
                go_meet
                case rel => exact ⟨by rw [H3.out], rfl⟩
              · have b5 : decide (4 < c) = false := decide_eq_false h5
                by_cases h6 : d < 0
                · have H3 : Hid (R = true) := by
                    have h : R = true := by rw [HR.out]; exact decide_eq_true (by omega)
                    exact h
                  have b6 : decide (d < 0) = true := decide_eq_true h6
                  go_wp2
                  go_meet
                  case rel => exact ⟨by rw [H3.out], rfl⟩
                · have b6 : decide (d < 0) = false := decide_eq_false h6
                  by_cases h7 : 4 < d
                  · have H3 : Hid (R = true) := by
                      have h : R = true := by rw [HR.out]; exact decide_eq_true (by omega)
                      exact h
                    have b7 : decide (4 < d) = true := decide_eq_true h7
                    go_wp2
                    go_meet
                    case rel => exact ⟨by rw [H3.out], rfl⟩
                  · have b7 : decide (4 < d) = false := decide_eq_false h7
                    have H3 : Hid (R = false) := by
                      have h : R = false := by rw [HR.out]; exact decide_eq_false (by omega)
                      exact h
                    go_wp2
                    go_meet
                    case rel => exact ⟨by rw [H3.out], rfl⟩
  case rest =>
    obtain ⟨rfl, hcw⟩ := hcut
    rw [hcw]
    clear hcw wc
    cases hR : R with
    | true =>
      clear hR
      go_wp2
      go_ret
      exact ⟨rfl, B0.out⟩
    | false =>
      have HIN : Hid ((0 ≤ a ∧ a ≤ 4) ∧ (0 ≤ b ∧ b ≤ 4) ∧ (0 ≤ c ∧ c ≤ 4) ∧ (0 ≤ d ∧ d ≤ 4)) := by
        have h := of_decide_eq_false (HR.out.symm.trans hR)
        have h2 : (0 ≤ a ∧ a ≤ 4) ∧ (0 ≤ b ∧ b ≤ 4) ∧ (0 ≤ c ∧ c ≤ 4) ∧ (0 ≤ d ∧ d ≤ 4) := by omega
        exact h2
      clear hR
      obtain ⟨z, hz⟩ : ∃ z : Nat, z = if C = true then 0 else 1 := ⟨_, rfl⟩
      have HZ : Hid (z = if C = true then 0 else 1) := hz
      have HSN : Hid (Nq.sent (Nq.cutW (Nq.made 5 100) a b true) [bare (c, d, 0)] = z) := by
        have h := cuts_sent HIN.out.1 HIN.out.2.1 HIN.out.2.2.1 HIN.out.2.2.2
        rw [← HC.out, ← hz] at h
        exact h
      clear hz
      obtain ⟨n2, hn2⟩ : ∃ n2, n2 = Nq.puts (Nq.cutW (Nq.made 5 100) a b true) [bare (c, d, 0)] := ⟨_, rfl⟩
      have HN2 : Hid (n2 = Nq.puts (Nq.cutW (Nq.made 5 100) a b true) [bare (c, d, 0)] ∧ n2.nodes = 5 ∧ n2.room = 100 ∧ n2.l.length ≤ 1) := by
        have e : ∀ n : Nq.Nt, Nq.puts n [bare (c, d, 0)] = Nq.put n (bare (c, d, 0)) := fun n => rfl
        have e2 : (Nq.cutW (Nq.made 5 100) a b true).nodes = 5 ∧ (Nq.cutW (Nq.made 5 100) a b true).room = 100 ∧ (Nq.cutW (Nq.made 5 100) a b true).l.length = 0 := by
          unfold Nq.cutW
          split <;> exact ⟨rfl, rfl, rfl⟩
        refine ⟨hn2, ?_, ?_, ?_⟩
        · rw [hn2, e, (Nq.put_room _ _).2, e2.1]
        · rw [hn2, e, (Nq.put_room _ _).1, e2.2.1]
        · have h := (Nq.put_len (Nq.cutW (Nq.made 5 100) a b true) (bare (c, d, 0))).2
          rw [hn2, e]
          omega
      clear hn2
      go_wp2_with fail
      refine (mine9_new HS.out (B0.out) 5 100 (by decide) (by decide)).mono ?_
      rintro e w1 ⟨q, F1, rfl, hM⟩
      have M1 : Hid (Mine9 LN W w1 q (Nq.made 5 100) F1) := hM
      clear hM
      go_wp2_with fail
      refine (M1.out.cut HS.out a b true (Nq.cutW (Nq.made 5 100) a b true) rfl).mono ?_
      rintro e w2 ⟨F2, rfl, hM, hmv⟩
      clear hmv
      have M2 : Hid (Mine9 LN W w2 q (Nq.cutW (Nq.made 5 100) a b true) F2) := hM
      clear hM
      go_wp2_with fail
      refine (M2.out.sendBare HS.out [(c, d, 0)] _ (by simp) z n2 HSN.out HN2.out.1.symm).mono ?_
      rintro e w3 ⟨F3, rfl, hM⟩
      have M3 : Hid (Mine9 LN W w3 q n2 F3) := hM
      clear hM
      go_upto_region 8 with fail
      go_cut [12] (fun x wx => x = .bool C ∧ wx = w3)
      case first =>
        cases g0 : (a == c) with
        | true =>
          cases g1 : (b == d) with
          | true =>
            cases g2 : (a == d) with
            | true =>
              cases g3 : (b == c) with
              | true =>
                go_wp2
                go_meet
                case rel => exact ⟨by rw [HC.out, g0, g1, g2, g3]; rfl, rfl⟩
              | false =>
                go_wp2
                go_meet
                case rel => exact ⟨by rw [HC.out, g0, g1, g2, g3]; rfl, rfl⟩
            | false =>
              cases g3 : (b == c) with
              | true =>
                go_wp2
                go_meet
                case rel => exact ⟨by rw [HC.out, g0, g1, g2, g3]; rfl, rfl⟩
              | false =>
                go_wp2
                go_meet
                case rel => exact ⟨by rw [HC.out, g0, g1, g2, g3]; rfl, rfl⟩
          | false =>
            cases g2 : (a == d) with
            | true =>
              cases g3 : (b == c) with
              | true =>
                go_wp2
                go_meet
                case rel => exact ⟨by rw [HC.out, g0, g1, g2, g3]; rfl, rfl⟩
              | false =>
                go_wp2
                go_meet
                case rel => exact ⟨by rw [HC.out, g0, g1, g2, g3]; rfl, rfl⟩
            | false =>
              cases g3 : (b == c) with
              | true =>
                go_wp2
                go_meet
                case rel => exact ⟨by rw [HC.out, g0, g1, g2, g3]; rfl, rfl⟩
              | false =>
                go_wp2
                go_meet
                case rel => exact ⟨by rw [HC.out, g0, g1, g2, g3]; rfl, rfl⟩
        | false =>
          cases g1 : (b == d) with
          | true =>
            cases g2 : (a == d) with
            | true =>
              cases g3 : (b == c) with
              | true =>
                go_wp2
                go_meet
                case rel => exact ⟨by rw [HC.out, g0, g1, g2, g3]; rfl, rfl⟩
              | false =>
                go_wp2
                go_meet
                case rel => exact ⟨by rw [HC.out, g0, g1, g2, g3]; rfl, rfl⟩
            | false =>
              cases g3 : (b == c) with
              | true =>
                go_wp2
                go_meet
                case rel => exact ⟨by rw [HC.out, g0, g1, g2, g3]; rfl, rfl⟩
              | false =>
                go_wp2
                go_meet
                case rel => exact ⟨by rw [HC.out, g0, g1, g2, g3]; rfl, rfl⟩
          | false =>
            cases g2 : (a == d) with
            | true =>
              cases g3 : (b == c) with
              | true =>
                go_wp2
                go_meet
                case rel => exact ⟨by rw [HC.out, g0, g1, g2, g3]; rfl, rfl⟩
              | false =>
                go_wp2
                go_meet
                case rel => exact ⟨by rw [HC.out, g0, g1, g2, g3]; rfl, rfl⟩
            | false =>
              cases g3 : (b == c) with
              | true =>
                go_wp2
                go_meet
                case rel => exact ⟨by rw [HC.out, g0, g1, g2, g3]; rfl, rfl⟩
              | false =>
                go_wp2
                go_meet
                case rel => exact ⟨by rw [HC.out, g0, g1, g2, g3]; rfl, rfl⟩
      case rest =>
        obtain ⟨rfl, hcw⟩ := hcut
        rw [hcw]
        clear hcw wc
        go_wp2_with fail
        refine (M3.out.heal HS.out (Nq.heal n2) rfl).mono ?_
        rintro e w4 ⟨F4, rfl, hM, hmv⟩
        clear hmv
        have M4 : Hid (Mine9 LN W w4 q (Nq.heal n2) F4) := hM
        clear hM
        go_wp2_with fail
        refine (M4.out.sendBare HS.out [(a, b, 0), (b, a, 0)] _ (by simp) 2 (Nq.puts (Nq.heal n2) [bare (a, b, 0), bare (b, a, 0)]) (cuts_two HN2.out.2 HIN.out.1 HIN.out.2.1) rfl).mono ?_
        rintro e w5 ⟨F5, rfl, hM⟩
        have M5 : Hid (Mine9 LN W w5 q (Nq.puts (Nq.heal n2) [bare (a, b, 0), bare (b, a, 0)]) F5) := hM
        clear hM
        cases hCC : C with
        | true =>
          have hz0 : z = 0 := by rw [HZ.out, hCC]; rfl
          subst hz0
          clear hCC
          go_wp2
          go_ret
          exact ⟨rfl, M5.out.below⟩
        | false =>
          have hz0 : z = 1 := by rw [HZ.out, hCC]; rfl
          subst hz0
          clear hCC
          go_wp2
          go_ret
          exact ⟨rfl, M5.out.below⟩
end Go.Proofs.Ytkldecdjokfajaa
