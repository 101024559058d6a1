/- WatchKids' walk. -/
import Derived.Test.YtjejpkognjedpaaDoorLAwake13
namespace Go.Proofs.YtjejpkognjedpaaDoor
open Go.RowKit

def tP : ByteArray := ⟨#[47, 112]⟩
def wP : Hq.Wt := ⟨4, 2, tP⟩
/-- What is heard of a child, or of a grandchild. -/
def kidE (c : Int) (d : Bool) : List Hq.Wt := if c ≠ 3 ∧ d = false then [⟨4, 4, tP⟩] else []
def kidS (c : Int) (d : Bool) : Hq.St := if c ≠ 3 ∧ d = false then ⟨10, []⟩ else ⟨10, [wP]⟩
def kidP (d : Bool) : ByteArray := if d then ⟨#[47, 112, 47, 99, 47, 100]⟩ else ⟨#[47, 112, 47, 99]⟩
theorem kids_plain (c : Int) (d : Bool) (h1 : 1 ≤ c) (h2 : c ≤ 3) : Hq.events ⟨10, [wP]⟩ (kidP d) c = kidE c d ∧ Hq.fired ⟨10, [wP]⟩ (kidP d) c = kidS c d := by
  have hc : c = 1 ∨ c = 2 ∨ c = 3 := by omega
  rcases hc with rfl | rfl | rfl <;> cases d <;> exact ⟨by kernel_rfl, by kernel_rfl⟩
set_option maxRecDepth 20000 in
set_option maxHeartbeats 4000000 in
theorem kids_any13 {LW : Rep13} (S : Specs13 LW) (c : Int) (d : Bool) (W : World) (hS : Pa.Std W) :
    Calls Tryd.prog 7 #[.int .i64 c, .bool d] W fun e w' => e = .returned (.bool true) ∧ Below W.heap.size W w' := by
  have HS : Hid (Specs13 LW ∧ Pa.Std W) := ⟨S, hS⟩
  clear S hS
  have HZ : Hid (tP.size ≤ maxLen ∧ (⟨#[47, 112, 47, 99, 47, 100]⟩ : ByteArray).size ≤ maxLen ∧ (⟨#[47, 112, 47, 99]⟩ : ByteArray).size ≤ maxLen) := by
    have h : tP.size ≤ maxLen ∧ (⟨#[47, 112, 47, 99, 47, 100]⟩ : ByteArray).size ≤ maxLen ∧ (⟨#[47, 112, 47, 99]⟩ : ByteArray).size ≤ maxLen := by decide
    exact h
  go_enter Tryd.func7, Tryd.ntmps7
  go_wp2_with fail
  refine (awake_any13 HS.out.1 W HS.out.2).mono ?_
  rintro e w0 ⟨rfl, hb0⟩
  have H0 : Hid (Below W.heap.size W w0) := hb0
  clear hb0
  by_cases h1 : c < 1
  · go_wp2
    go_ret
    exact ⟨rfl, H0.out⟩
  by_cases h3 : 3 < c
  · go_wp2
    go_ret
    exact ⟨rfl, H0.out⟩
  have HP : Hid (Hq.events ⟨10, [wP]⟩ (kidP d) c = kidE c d ∧ Hq.fired ⟨10, [wP]⟩ (kidP d) c = kidS c d) := kids_plain c d (by omega) (by omega)
  go_wp2_with fail
  refine (mine13_new HS.out.1 H0.out 10 (by decide)).mono ?_
  rintro e w1 ⟨q, F1, rfl, hM⟩
  have M1 : Hid (Mine13 LW W w1 q ⟨10, []⟩ F1) := hM
  clear hM
  go_wp2_with fail
  refine (M1.out.arm HS.out.1 HS.out.2 4 _ 2 HZ.out.1 0 ⟨10, [wP]⟩ (by kernel_rfl)).mono ?_
  rintro e w2 ⟨F2, rfl, hM, hmv⟩
  clear hmv
  have M2 : Hid (Mine13 LW W w2 q ⟨10, [wP]⟩ F2) := hM
  clear hM
  have h1b : decide (c < 1) = false := by simp; omega
  cases d with
  | true =>
    go_wp2_with fail
    refine (M2.out.fire HS.out.1 HS.out.2 _ c HZ.out.2.1 [] ⟨10, [wP]⟩ (by have := HP.out.1; simpa [kidE, kidP] using this) (by have := HP.out.2; simpa [kidS, kidP] using this)).mono ?_
    rintro e w3 ⟨F3, v, rfl, hev, hof, hM, hmv⟩
    have M3 : Hid (Mine13 LW W w3 q ⟨10, [wP]⟩ F3) := hM
    obtain ⟨a4, n4, c4, rfl, hn4, j1, j2, j3⟩ := hev
    have j0 : n4 = 0 := hn4
    clear hn4
    subst j0
    clear hM hmv hof j1 j2 j3
    by_cases hc : c = 3
    · subst hc
      go_wp2_with fail
      refine (M3.out.len HS.out.1 1 rfl).mono ?_
      rintro e w5 ⟨rfl, hM, hb5⟩
      have M5 : Hid (Mine13 LW W w5 q ⟨10, [wP]⟩ F3) := hM
      clear hM hb5
      go_wp2
      go_ret
      exact ⟨rfl, M5.out.below⟩
    · have hcb : (c != 3) = true := by simp [hc]
      go_wp2_with fail
      refine (M3.out.len HS.out.1 1 rfl).mono ?_
      rintro e w5 ⟨rfl, hM, hb5⟩
      have M5 : Hid (Mine13 LW W w5 q ⟨10, [wP]⟩ F3) := hM
      clear hM hb5
      go_wp2
      go_ret
      exact ⟨rfl, M5.out.below⟩
  | false =>
    by_cases hc : c = 3
    · subst hc
      go_wp2_with fail
      refine (M2.out.fire HS.out.1 HS.out.2 _ 3 HZ.out.2.2 [] ⟨10, [wP]⟩ (by have := HP.out.1; simpa [kidE, kidP] using this) (by have := HP.out.2; simpa [kidS, kidP] using this)).mono ?_
      rintro e w3 ⟨F3, v, rfl, hev, hof, hM, hmv⟩
      have M3 : Hid (Mine13 LW W w3 q ⟨10, [wP]⟩ F3) := hM
      obtain ⟨a4, n4, c4, rfl, hn4, j1, j2, j3⟩ := hev
      have j0 : n4 = 0 := hn4
      clear hn4
      subst j0
      clear hM hmv hof j1 j2 j3
      go_wp2_with fail
      refine (M3.out.len HS.out.1 1 rfl).mono ?_
      rintro e w5 ⟨rfl, hM, hb5⟩
      have M5 : Hid (Mine13 LW W w5 q ⟨10, [wP]⟩ F3) := hM
      clear hM hb5
      go_wp2
      go_ret
      exact ⟨rfl, M5.out.below⟩
    · have hcb : (c != 3) = true := by simp [hc]
      go_wp2_with fail
      refine (M2.out.fire HS.out.1 HS.out.2 _ c HZ.out.2.2 [⟨4, 4, tP⟩] ⟨10, []⟩ (by have := HP.out.1; simpa [kidE, kidP, hc] using this) (by have := HP.out.2; simpa [kidS, kidP, hc] using this)).mono ?_
      rintro e w3 ⟨F3, v, rfl, hev, hof, hM, hmv⟩
      have M3 : Hid (Mine13 LW W w3 q ⟨10, []⟩ F3) := hM
      clear hM hmv hof
      obtain ⟨g, b, c', rfl, j4, hcs⟩ := hev.at (by simp)
      obtain ⟨e0, e1, e2⟩ := hcs 0 _ rfl
      simp only [Nat.zero_mul, Nat.add_zero, List.length_cons, List.length_nil, Nat.zero_add] at e0 e1 e2 ⊢
      have ht : tP = ⟨#[47, 112]⟩ := rfl
      rw [ht] at e1
      clear ht hcs j4 hev
      go_wp2_with fail
      refine (M3.out.len HS.out.1 0 rfl).mono ?_
      rintro e w5 ⟨rfl, hM, hb5⟩
      have M5 : Hid (Mine13 LW W w5 q ⟨10, []⟩ F3) := hM
      clear hM hb5 e0 e1 e2
      go_wp2
      go_ret
      exact ⟨rfl, M5.out.below⟩
end Go.Proofs.YtjejpkognjedpaaDoor
