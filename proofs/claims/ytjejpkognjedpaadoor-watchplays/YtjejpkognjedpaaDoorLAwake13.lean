/- What the statements' own awake answers. -/
import Derived.Test.YtjejpkognjedpaaDoorSpecs13
namespace Go.Proofs.YtjejpkognjedpaaDoor
open Go.RowKit

def tA : ByteArray := ⟨#[47, 97]⟩
def wA : Hq.Wt := ⟨1, 1, tA⟩
set_option maxRecDepth 20000 in
set_option maxHeartbeats 4000000 in
theorem awake_any13 {LW : Rep13} (S : Specs13 LW) (W : World) (hS : Pa.Std W) :
    Calls Tryd.prog 8 #[] W fun e w' => e = .returned (.bool true) ∧ Below W.heap.size W w' := by
  have HS : Hid (Specs13 LW ∧ Pa.Std W) := ⟨S, hS⟩
  clear S hS
  have hz : (⟨#[47, 97]⟩ : ByteArray).size ≤ maxLen := by decide
  have HZ : Hid ((⟨#[47, 97]⟩ : ByteArray).size ≤ maxLen) := hz
  clear hz
  go_enter Tryd.func8, Tryd.ntmps8
  go_wp2_with fail
  refine (mine13_new HS.out.1 (Below.refl _ W) 5 (by decide)).mono ?_
  rintro e w1 ⟨q, F1, rfl, hM⟩
  have M1 : Hid (Mine13 LW W w1 q ⟨5, []⟩ F1) := hM
  clear hM
  go_wp2_with fail
  refine (M1.out.arm HS.out.1 HS.out.2 1 _ 1 HZ.out 0 ⟨5, [wA]⟩ (by kernel_rfl)).mono ?_
  rintro e w2 ⟨F2, rfl, hM, hmv⟩
  clear hmv
  have M2 : Hid (Mine13 LW W w2 q ⟨5, [wA]⟩ F2) := hM
  clear hM
  go_wp2_with fail
  refine (M2.out.fire HS.out.1 HS.out.2 _ 3 HZ.out [⟨1, 3, tA⟩] ⟨5, []⟩ (by kernel_rfl) (by kernel_rfl)).mono ?_
  rintro e w3 ⟨F3, v, rfl, hev, hof, hM, hmv⟩
  clear hmv
  have M3 : Hid (Mine13 LW W w3 q ⟨5, []⟩ F3) := hM
  clear hM
  have HE : Hid (Ev w3 v [⟨1, 3, tA⟩] ∧ ∀ k, v.ownBlock = some k → ¬ F3 k) := ⟨hev, fun k hk => (hof k hk).2⟩
  clear hev hof
  go_wp2_with fail
  refine (M3.out.fire HS.out.1 HS.out.2 _ 3 HZ.out [] ⟨5, []⟩ (by kernel_rfl) (by kernel_rfl)).mono ?_
  rintro e w4 ⟨F4, v4, rfl, hev4, hof4, hM, hmv⟩
  have HE4 : Hid (Ev w4 v [⟨1, 3, tA⟩]) := (HE.out.1.moved HE.out.2 hmv).1
  have M4 : Hid (Mine13 LW W w4 q ⟨5, []⟩ F4) := hM
  obtain ⟨a4, n4, c4, rfl, hn4, j1, j2, j3⟩ := hev4
  have j0 : n4 = 0 := hn4
  clear hn4
  subst j0
  clear hM hmv hof4 j1 j2 j3
  obtain ⟨g, b, c, rfl, j4, hcs⟩ := HE4.out.at (by simp)
  obtain ⟨e0, e1, e2⟩ := hcs 0 _ rfl
  simp only [Nat.zero_mul, Nat.add_zero, List.length_cons, List.length_nil, Nat.zero_add] at e0 e1 e2 ⊢
  clear hcs j4
  have ht : tA = ⟨#[47, 97]⟩ := rfl
  rw [ht] at e1
  clear ht
  go_wp2_with fail
  refine (M4.out.len HS.out.1 0 rfl).mono ?_
  rintro e w5 ⟨rfl, hM, hb5⟩
  have M5 : Hid (Mine13 LW W w5 q ⟨5, []⟩ F4) := hM
  clear hM hb5 e0 e1 e2
  go_wp2
  go_ret
  exact ⟨rfl, M5.out.below⟩
end Go.Proofs.YtjejpkognjedpaaDoor
