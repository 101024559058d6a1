/- LockFar's walk. -/
import Derived.Test.YtadgjinlblloiaaDoorLAwake17
import Derived.Test.YtadgjinlblloiaaDoorActs17
import Derived.Test.YtadgjinlblloiaaDoorLibQ
namespace Go.Proofs.YtadgjinlblloiaaDoor
open Go.RowKit

def Lk.Far (x y : ByteArray) : Prop := Lk.good x = true ∧ Lk.good y = true ∧ Pl.top x.data.toList ≠ Pl.top y.data.toList
/-- What both have taken. -/
theorem Lk.far_takes {xa xb : List ByteArray} (h : ∀ x ∈ xa, ∀ y ∈ xb, Lk.Far x y) : ((Lk.take [] 1 xa).2.1 && (Lk.take (Lk.take [] 1 xa).2.2 2 xb).2.1) = true ∨ (xa = [] ∧ (Lk.take [] 1 xa).2.1 = true) ∨ (xa ≠ [] ∧ xb = [] ∧ (Lk.take (Lk.take [] 1 xa).2.2 2 xb).2.1 = true) := by
  have hnil : ∀ s who, (Lk.take s who []).2.1 = true := fun s who => by rw [Lk.take_yes (Lk.faulty_ok (fun _ h => by cases h) (fun _ h => by cases h))]
  cases xa with
  | nil => exact Or.inr (Or.inl ⟨rfl, hnil _ _⟩)
  | cons x xa =>
    cases xb with
    | nil => exact Or.inr (Or.inr ⟨by simp, rfl, hnil _ _⟩)
    | cons y xb =>
      refine Or.inl ?_
      have h1 : Lk.faulty [] 1 (x :: xa) = none := Lk.faulty_ok (fun p hp => (h p hp y (by simp)).1) (fun p _ => Lk.blocks_nil _ _)
      obtain ⟨t, e, ht⟩ := Lk.take_ext [] 1 (x :: xa)
      have h2 : Lk.faulty (Lk.take [] 1 (x :: xa)).2.2 2 (y :: xb) = none := by
        refine Lk.faulty_ok (fun p hp => (h x (by simp) p hp).2.1) (fun p hp => Lk.far_blocks fun z hz => ?_)
        rw [e, List.nil_append] at hz
        have h3 := h z.path (ht z hz).2 p hp
        exact ⟨h3.1, fun e => h3.2.2 e.symm⟩
      rw [Lk.take_yes h2, Lk.take_yes h1]
      rfl
theorem Lk.far_frees (xa xb : List ByteArray) (s1 s2 : Lk.St) (h1 : (Lk.take [] 1 xa).2.2 = s1) (h2 : (Lk.take s1 2 xb).2.2 = s2) : ∃ t, Lk.rest s2 1 = t ∧ Lk.rest t 2 = [] ∧ Lk.free s2 1 = (s1.length : Int) ∧ Lk.free t 2 = (s2.length : Int) - (s1.length : Int) := by
  obtain ⟨t1, e1, ht1⟩ := Lk.take_ext [] 1 xa
  obtain ⟨t2, e2, ht2⟩ := Lk.take_ext s1 2 xb
  rw [h1, List.nil_append] at e1
  rw [h2] at e2
  have hr : Lk.rest s2 1 = t2 := by
    rw [e2]
    exact Lk.rest_two (fun x hx => (ht1 x (by rw [← e1]; exact hx)).1) (fun x hx => (ht2 x hx).1) (by decide)
  have hr2 : Lk.rest t2 2 = [] := Lk.rest_all fun x hx => (ht2 x hx).1
  refine ⟨t2, hr, hr2, ?_, ?_⟩
  · unfold Lk.free
    rw [hr, e2, List.length_append]
    omega
  · unfold Lk.free
    rw [hr2, e2, List.length_append, List.length_nil]
    omega
set_option maxRecDepth 20000 in
set_option maxHeartbeats 8000000 in
theorem far_any17 {LS : Rep17} (S : Specs17 LS) (v u : Value) (xa xb : List ByteArray) (W : World) (hS : Pa.Std W) (hv : Ss W v xa) (hu : Ss W u xb) (hl : xa.length ≤ maxLen) (hl2 : xb.length ≤ maxLen) (hp : ∀ p ∈ xa, p.size ≤ maxLen) (hp2 : ∀ p ∈ xb, p.size ≤ maxLen) :
    Calls Tryd.prog 7 #[v, u] W fun e w' => e = .returned (.bool true) ∧ Below W.heap.size W w' := by
  have HS : Hid (Specs17 LS ∧ Pa.Std W ∧ (∀ p ∈ xa, p.size ≤ maxLen) ∧ (∀ p ∈ xb, p.size ≤ maxLen)) := ⟨S, hS, hp, hp2⟩
  obtain ⟨av, N, c, rfl, hN, hj⟩ := hv
  have HV : Hid (Ss W (.slice av N c) xa ∧ N = xa.length) := ⟨⟨av, N, c, rfl, hN, hj⟩, hN⟩
  obtain ⟨au, M, cu, rfl, hM, hk⟩ := hu
  have HU : Hid (Ss W (.slice au M cu) xb ∧ M = xb.length) := ⟨⟨au, M, cu, rfl, hM, hk⟩, hM⟩
  have hN63 : N ≤ 9223372036854775807 := by unfold maxLen at hl; omega
  have hM63 : M ≤ 9223372036854775807 := by unfold maxLen at hl2; omega
  clear S hS hp hp2 hl hl2 hN hj hM hk
  go_enter Tryd.func7, Tryd.ntmps7
  go_wp2_with fail
  refine (awake_any17 HS.out.1 W HS.out.2.1).mono ?_
  rintro e w0 ⟨rfl, hb0⟩
  have H0 : Hid (Below W.heap.size W w0) := hb0
  clear hb0
  by_cases a1 : (6 : Int) < (N : Int)
  · go_wp2
    go_ret
    exact ⟨rfl, H0.out⟩
  by_cases a2 : (6 : Int) < (M : Int)
  · go_wp2
    go_ret
    exact ⟨rfl, H0.out⟩
  have HA : Hid (N ≤ 6 ∧ M ≤ 6) := ⟨by omega, by omega⟩
  go_wp2
  go_loopw [5] (fun i wx => ∃ k : Nat, k ≤ N ∧ i = .int .i64 (k : Int) ∧ Below W.heap.size W wx ∧ ∀ x ∈ xa.take k, ∀ y ∈ xb, Lk.Far x y) (fun i _ => N - (intOf i).toNat)
  case atStart => exact ⟨0, Nat.zero_le _, rfl, H0.out, fun x hx => by simp at hx⟩
  case round =>
    obtain ⟨k, hk, rfl, hb, hfar⟩ := hrel
    have H1 : Hid (Below W.heap.size W wr ∧ ∀ x ∈ xa.take k, ∀ y ∈ xb, Lk.Far x y) := ⟨hb, hfar⟩
    clear hb hfar H0
    by_cases hlt : k < N
    · have hlt' : (k : Int) < (N : Int) := by omega
      have hk0 : (0 : Int) ≤ (k : Int) := by omega
      have hwk : IntKind.wrap .i64 ((k : Int) + 1) = (k : Int) + 1 := by rw [IntKind.wrap_i64]; omega
      obtain ⟨x, hx⟩ : ∃ x, xa[k]? = some x := ⟨xa[k]'(by rw [← HV.out.2]; exact hlt), List.getElem?_eq_getElem _⟩
      obtain ⟨g, o, rfl, hcl⟩ := HV.out.1.at17 hx
      have HX : Hid (xa[k]? = some x ∧ x.size ≤ maxLen ∧ ∀ w, Below W.heap.size W w → w.cell? ⟨g, o + k, none⟩ = some (.string x)) := ⟨hx, HS.out.2.2.1 x (List.mem_of_getElem? hx), hcl⟩
      clear hx hcl
      go_wp2
      go_loopw [6] (fun i wx => ∃ j : Nat, j ≤ M ∧ i = .int .i64 (j : Int) ∧ Below W.heap.size W wx ∧ ∀ y ∈ xb.take j, Lk.Far x y) (fun i _ => M - (intOf i).toNat)
      case atStart => exact ⟨0, Nat.zero_le _, rfl, H1.out.1, fun x hx => by simp at hx⟩
      case round =>
        obtain ⟨j, hj, rfl, hb, hfar⟩ := hrel
        have H2 : Hid (Below W.heap.size W wr ∧ ∀ y ∈ xb.take j, Lk.Far x y) := ⟨hb, hfar⟩
        clear hb hfar
        by_cases hlj : j < M
        · have hlj' : (j : Int) < (M : Int) := by omega
          have hj0 : (0 : Int) ≤ (j : Int) := by omega
          have hwj : IntKind.wrap .i64 ((j : Int) + 1) = (j : Int) + 1 := by rw [IntKind.wrap_i64]; omega
          obtain ⟨y, hy⟩ : ∃ y, xb[j]? = some y := ⟨xb[j]'(by rw [← HU.out.2]; exact hlj), List.getElem?_eq_getElem _⟩
          obtain ⟨g2, o2, rfl, hcl⟩ := HU.out.1.at17 hy
          have HY : Hid (xb[j]? = some y ∧ y.size ≤ maxLen ∧ ∀ w, Below W.heap.size W w → w.cell? ⟨g2, o2 + j, none⟩ = some (.string y)) := ⟨hy, HS.out.2.2.2 y (List.mem_of_getElem? hy), hcl⟩
          have c0 := HX.out.2.2 wr H2.out.1
          clear hy hcl
          obtain ⟨ga, hga⟩ : ∃ z, z = Pl.goodB x.data.toList := ⟨_, rfl⟩
          obtain ⟨gb, hgb⟩ : ∃ z, z = Pl.goodB y.data.toList := ⟨_, rfl⟩
          have HG : Hid (ga = Pl.goodB x.data.toList ∧ gb = Pl.goodB y.data.toList) := ⟨hga, hgb⟩
          clear hga hgb
          go_upto_region 11 with fail
          refine wp_region_held_drew (S := fun w' => Below W.heap.size W w') (by kernel_rfl) H2.out.1.drew (fun _ => ?_)
          have J : Hid (Below W.heap.size W wr.drew) := H2.out.1.drew
          clear c0
          generalize wr.drew = s0 at *
          refine' take_at (i := 0) (d := 36) (v := _) rfl rfl (by kernel_rfl) (by kernel_rfl) (by kernel_rfl) (fun _ _ _ h => h) (Or.inl ⟨by rfl, ?h0⟩) (J.out) ?_
          case h0 =>
            intro w hSw
            have t0 := HX.out.2.2 w hSw
            go_simp
            with_reducible rfl
          simp only [List.setIfInBounds_toArray, List.set_cons_zero, List.set_cons_succ]
          refine' take_at (i := 1) (d := 37) (v := _) rfl rfl (by kernel_rfl) (by kernel_rfl) (by kernel_rfl) (fun _ _ _ h => h) (Or.inl ⟨by rfl, ?h1⟩) (J.out) ?_
          case h1 =>
            intro w hSw
            have t0 := HX.out.2.2 w hSw
            go_simp
            with_reducible rfl
          simp only [List.setIfInBounds_toArray, List.set_cons_zero, List.set_cons_succ]
          refine' take_at (i := 2) (d := 38) (v := _) rfl rfl (by kernel_rfl) (by kernel_rfl) (by kernel_rfl) (fun _ _ _ h => h) (Or.inl ⟨by rfl, ?h2⟩) (J.out) ?_
          case h2 =>
            intro w hSw
            have t0 := HX.out.2.2 w hSw
            go_simp
            with_reducible rfl
          simp only [List.setIfInBounds_toArray, List.set_cons_zero, List.set_cons_succ]
          refine' take_at (i := 3) (d := 39) (v := _) rfl rfl (by kernel_rfl) (by kernel_rfl) (by kernel_rfl) (fun _ _ _ h => h) (Or.inl ⟨by rfl, ?h3⟩) (J.out) ?_
          case h3 =>
            intro w hSw
            have t0 := HX.out.2.2 w hSw
            go_simp
            with_reducible rfl
          simp only [List.setIfInBounds_toArray, List.set_cons_zero, List.set_cons_succ]
          refine wpAnyH_ready (rs := [4]) (by kernel_rfl) (by simp) ?_
          refine AllReadyH.cons (o := _) rfl (fun KQ hKQ => ?_) AllReadyH.nil
          go_simp
          refine (Pa.refGood_any x s0 HX.out.2.1).mono ?_
          rintro e s1 ⟨rfl, hb⟩
          rw [← HG.out.1]
          have J1 : Hid (Below W.heap.size W s1) := J.out.trans (hb.mono J.out.size)
          clear hb J
          have J := J1
          clear J1
          refine hKQ.out _ _ J.out (fun _ => ?_)
          clear hKQ KQ
          cases ga with
          | false =>
            refine' take_at (i := 5) (d := 41) (v := _) rfl rfl (by kernel_rfl) (by kernel_rfl) (by kernel_rfl) (fun _ _ _ h => h) (Or.inl ⟨by rfl, ?h5⟩) (J.out) ?_
            case h5 =>
              intro w hSw
              clear hSw
              go_simp
              with_reducible rfl
            simp only [List.setIfInBounds_toArray, List.set_cons_zero, List.set_cons_succ]
            refine' take_at (i := 6) (d := 42) (v := _) rfl rfl (by kernel_rfl) (by kernel_rfl) (by kernel_rfl) (fun _ _ _ h => h) (Or.inl ⟨by rfl, ?h6⟩) (J.out) ?_
            case h6 =>
              intro w hSw
              clear hSw
              go_simp
              with_reducible rfl
            simp only [List.setIfInBounds_toArray, List.set_cons_zero, List.set_cons_succ]
            refine' take_at (i := 7) (d := 43) (v := undef) rfl rfl (by kernel_rfl) (by kernel_rfl) (by kernel_rfl) (fun _ _ _ h => h) (Or.inr ⟨by rfl, rfl⟩) (J.out) ?_
            simp only [List.setIfInBounds_toArray, List.set_cons_zero, List.set_cons_succ]
            refine' take_at (i := 8) (d := 44) (v := undef) rfl rfl (by kernel_rfl) (by kernel_rfl) (by kernel_rfl) (fun _ _ _ h => h) (Or.inr ⟨by rfl, rfl⟩) (J.out) ?_
            simp only [List.setIfInBounds_toArray, List.set_cons_zero, List.set_cons_succ]
            refine' take_at (i := 9) (d := 45) (v := undef) rfl rfl (by kernel_rfl) (by kernel_rfl) (by kernel_rfl) (fun _ _ _ h => h) (Or.inr ⟨by rfl, rfl⟩) (J.out) ?_
            simp only [List.setIfInBounds_toArray, List.set_cons_zero, List.set_cons_succ]
            refine' take_at (i := 10) (d := 46) (v := undef) rfl rfl (by kernel_rfl) (by kernel_rfl) (by kernel_rfl) (fun _ _ _ h => h) (Or.inr ⟨by rfl, rfl⟩) (J.out) ?_
            simp only [List.setIfInBounds_toArray, List.set_cons_zero, List.set_cons_succ]
            refine' take_at (i := 11) (d := 47) (v := undef) rfl rfl (by kernel_rfl) (by kernel_rfl) (by kernel_rfl) (fun _ _ _ h => h) (Or.inr ⟨by rfl, rfl⟩) (J.out) ?_
            simp only [List.setIfInBounds_toArray, List.set_cons_zero, List.set_cons_succ]
            refine' take_at (i := 12) (d := 48) (v := undef) rfl rfl (by kernel_rfl) (by kernel_rfl) (by kernel_rfl) (fun _ _ _ h => h) (Or.inr ⟨by rfl, rfl⟩) (J.out) ?_
            simp only [List.setIfInBounds_toArray, List.set_cons_zero, List.set_cons_succ]
            refine' take_at (i := 13) (d := 49) (v := _) rfl rfl (by kernel_rfl) (by kernel_rfl) (by kernel_rfl) (fun _ _ _ h => h) (Or.inl ⟨by rfl, ?h13⟩) (J.out) ?_
            case h13 =>
              intro w hSw
              clear hSw
              go_simp
              with_reducible rfl
            simp only [List.setIfInBounds_toArray, List.set_cons_zero, List.set_cons_succ]
            refine' take_at (i := 14) (d := 50) (v := _) rfl rfl (by kernel_rfl) (by kernel_rfl) (by kernel_rfl) (fun _ _ _ h => h) (Or.inl ⟨by rfl, ?h14⟩) (J.out) ?_
            case h14 =>
              intro w hSw
              clear hSw
              go_simp
              with_reducible rfl
            simp only [List.setIfInBounds_toArray, List.set_cons_zero, List.set_cons_succ]
            refine' take_at (i := 15) (d := 51) (v := undef) rfl rfl (by kernel_rfl) (by kernel_rfl) (by kernel_rfl) (fun _ _ _ h => h) (Or.inr ⟨by rfl, rfl⟩) (J.out) ?_
            simp only [List.setIfInBounds_toArray, List.set_cons_zero, List.set_cons_succ]
            refine' take_at (i := 16) (d := 52) (v := undef) rfl rfl (by kernel_rfl) (by kernel_rfl) (by kernel_rfl) (fun _ _ _ h => h) (Or.inr ⟨by rfl, rfl⟩) (J.out) ?_
            simp only [List.setIfInBounds_toArray, List.set_cons_zero, List.set_cons_succ]
            refine' take_at (i := 17) (d := 53) (v := undef) rfl rfl (by kernel_rfl) (by kernel_rfl) (by kernel_rfl) (fun _ _ _ h => h) (Or.inr ⟨by rfl, rfl⟩) (J.out) ?_
            simp only [List.setIfInBounds_toArray, List.set_cons_zero, List.set_cons_succ]
            refine' take_at (i := 18) (d := 54) (v := undef) rfl rfl (by kernel_rfl) (by kernel_rfl) (by kernel_rfl) (fun _ _ _ h => h) (Or.inr ⟨by rfl, rfl⟩) (J.out) ?_
            simp only [List.setIfInBounds_toArray, List.set_cons_zero, List.set_cons_succ]
            refine' take_at (i := 19) (d := 55) (v := undef) rfl rfl (by kernel_rfl) (by kernel_rfl) (by kernel_rfl) (fun _ _ _ h => h) (Or.inr ⟨by rfl, rfl⟩) (J.out) ?_
            simp only [List.setIfInBounds_toArray, List.set_cons_zero, List.set_cons_succ]
            refine' take_at (i := 20) (d := 56) (v := undef) rfl rfl (by kernel_rfl) (by kernel_rfl) (by kernel_rfl) (fun _ _ _ h => h) (Or.inr ⟨by rfl, rfl⟩) (J.out) ?_
            simp only [List.setIfInBounds_toArray, List.set_cons_zero, List.set_cons_succ]
            refine' take_at (i := 21) (d := 57) (v := undef) rfl rfl (by kernel_rfl) (by kernel_rfl) (by kernel_rfl) (fun _ _ _ h => h) (Or.inr ⟨by rfl, rfl⟩) (J.out) ?_
            simp only [List.setIfInBounds_toArray, List.set_cons_zero, List.set_cons_succ]
            refine' take_at (i := 22) (d := 58) (v := undef) rfl rfl (by kernel_rfl) (by kernel_rfl) (by kernel_rfl) (fun _ _ _ h => h) (Or.inr ⟨by rfl, rfl⟩) (J.out) ?_
            simp only [List.setIfInBounds_toArray, List.set_cons_zero, List.set_cons_succ]
            refine' take_at (i := 23) (d := 59) (v := undef) rfl rfl (by kernel_rfl) (by kernel_rfl) (by kernel_rfl) (fun _ _ _ h => h) (Or.inr ⟨by rfl, rfl⟩) (J.out) ?_
            simp only [List.setIfInBounds_toArray, List.set_cons_zero, List.set_cons_succ]
            refine' take_at (i := 24) (d := 60) (v := undef) rfl rfl (by kernel_rfl) (by kernel_rfl) (by kernel_rfl) (fun _ _ _ h => h) (Or.inr ⟨by rfl, rfl⟩) (J.out) ?_
            simp only [List.setIfInBounds_toArray, List.set_cons_zero, List.set_cons_succ]
            refine' take_at (i := 25) (d := 61) (v := undef) rfl rfl (by kernel_rfl) (by kernel_rfl) (by kernel_rfl) (fun _ _ _ h => h) (Or.inr ⟨by rfl, rfl⟩) (J.out) ?_
            simp only [List.setIfInBounds_toArray, List.set_cons_zero, List.set_cons_succ]
            refine' take_at (i := 26) (d := 62) (v := _) rfl rfl (by kernel_rfl) (by kernel_rfl) (by kernel_rfl) (fun _ _ _ h => h) (Or.inl ⟨by rfl, ?h26⟩) (J.out) ?_
            case h26 =>
              intro w hSw
              clear hSw
              go_simp
              with_reducible rfl
            simp only [List.setIfInBounds_toArray, List.set_cons_zero, List.set_cons_succ]
            refine wpAnyH_done (by kernel_rfl) ?_ _
            go_wp2
            go_ret
            exact ⟨rfl, J.out⟩
          | true =>
          refine' take_at (i := 5) (d := 41) (v := _) rfl rfl (by kernel_rfl) (by kernel_rfl) (by kernel_rfl) (fun _ _ _ h => h) (Or.inl ⟨by rfl, ?h5⟩) (J.out) ?_
          case h5 =>
            intro w hSw
            clear hSw
            go_simp
            with_reducible rfl
          simp only [List.setIfInBounds_toArray, List.set_cons_zero, List.set_cons_succ]
          refine' take_at (i := 6) (d := 42) (v := _) rfl rfl (by kernel_rfl) (by kernel_rfl) (by kernel_rfl) (fun _ _ _ h => h) (Or.inl ⟨by rfl, ?h6⟩) (J.out) ?_
          case h6 =>
            intro w hSw
            clear hSw
            go_simp
            with_reducible rfl
          simp only [List.setIfInBounds_toArray, List.set_cons_zero, List.set_cons_succ]
          refine' take_at (i := 7) (d := 43) (v := _) rfl rfl (by kernel_rfl) (by kernel_rfl) (by kernel_rfl) (fun _ _ _ h => h) (Or.inl ⟨by rfl, ?h7⟩) (J.out) ?_
          case h7 =>
            intro w hSw
            have t0 := HY.out.2.2 w hSw
            go_simp
            with_reducible rfl
          simp only [List.setIfInBounds_toArray, List.set_cons_zero, List.set_cons_succ]
          refine' take_at (i := 8) (d := 44) (v := _) rfl rfl (by kernel_rfl) (by kernel_rfl) (by kernel_rfl) (fun _ _ _ h => h) (Or.inl ⟨by rfl, ?h8⟩) (J.out) ?_
          case h8 =>
            intro w hSw
            have t0 := HY.out.2.2 w hSw
            go_simp
            with_reducible rfl
          simp only [List.setIfInBounds_toArray, List.set_cons_zero, List.set_cons_succ]
          refine' take_at (i := 9) (d := 45) (v := _) rfl rfl (by kernel_rfl) (by kernel_rfl) (by kernel_rfl) (fun _ _ _ h => h) (Or.inl ⟨by rfl, ?h9⟩) (J.out) ?_
          case h9 =>
            intro w hSw
            have t0 := HY.out.2.2 w hSw
            go_simp
            with_reducible rfl
          simp only [List.setIfInBounds_toArray, List.set_cons_zero, List.set_cons_succ]
          refine' take_at (i := 10) (d := 46) (v := _) rfl rfl (by kernel_rfl) (by kernel_rfl) (by kernel_rfl) (fun _ _ _ h => h) (Or.inl ⟨by rfl, ?h10⟩) (J.out) ?_
          case h10 =>
            intro w hSw
            have t0 := HY.out.2.2 w hSw
            go_simp
            with_reducible rfl
          simp only [List.setIfInBounds_toArray, List.set_cons_zero, List.set_cons_succ]
          refine wpAnyH_ready (rs := [11]) (by kernel_rfl) (by simp) ?_
          refine AllReadyH.cons (o := _) rfl (fun KQ hKQ => ?_) AllReadyH.nil
          go_simp
          refine (Pa.refGood_any y s1 HY.out.2.1).mono ?_
          rintro e s2 ⟨rfl, hb⟩
          rw [← HG.out.2]
          have J1 : Hid (Below W.heap.size W s2) := J.out.trans (hb.mono J.out.size)
          clear hb J
          have J := J1
          clear J1
          refine hKQ.out _ _ J.out (fun _ => ?_)
          clear hKQ KQ
          cases gb with
          | false =>
            refine' take_at (i := 12) (d := 48) (v := _) rfl rfl (by kernel_rfl) (by kernel_rfl) (by kernel_rfl) (fun _ _ _ h => h) (Or.inl ⟨by rfl, ?h12⟩) (J.out) ?_
            case h12 =>
              intro w hSw
              clear hSw
              go_simp
              with_reducible rfl
            simp only [List.setIfInBounds_toArray, List.set_cons_zero, List.set_cons_succ]
            refine' take_at (i := 13) (d := 49) (v := _) rfl rfl (by kernel_rfl) (by kernel_rfl) (by kernel_rfl) (fun _ _ _ h => h) (Or.inl ⟨by rfl, ?h13⟩) (J.out) ?_
            case h13 =>
              intro w hSw
              clear hSw
              go_simp
              with_reducible rfl
            simp only [List.setIfInBounds_toArray, List.set_cons_zero, List.set_cons_succ]
            refine' take_at (i := 14) (d := 50) (v := _) rfl rfl (by kernel_rfl) (by kernel_rfl) (by kernel_rfl) (fun _ _ _ h => h) (Or.inl ⟨by rfl, ?h14⟩) (J.out) ?_
            case h14 =>
              intro w hSw
              clear hSw
              go_simp
              with_reducible rfl
            simp only [List.setIfInBounds_toArray, List.set_cons_zero, List.set_cons_succ]
            refine' take_at (i := 15) (d := 51) (v := undef) rfl rfl (by kernel_rfl) (by kernel_rfl) (by kernel_rfl) (fun _ _ _ h => h) (Or.inr ⟨by rfl, rfl⟩) (J.out) ?_
            simp only [List.setIfInBounds_toArray, List.set_cons_zero, List.set_cons_succ]
            refine' take_at (i := 16) (d := 52) (v := undef) rfl rfl (by kernel_rfl) (by kernel_rfl) (by kernel_rfl) (fun _ _ _ h => h) (Or.inr ⟨by rfl, rfl⟩) (J.out) ?_
            simp only [List.setIfInBounds_toArray, List.set_cons_zero, List.set_cons_succ]
            refine' take_at (i := 17) (d := 53) (v := undef) rfl rfl (by kernel_rfl) (by kernel_rfl) (by kernel_rfl) (fun _ _ _ h => h) (Or.inr ⟨by rfl, rfl⟩) (J.out) ?_
            simp only [List.setIfInBounds_toArray, List.set_cons_zero, List.set_cons_succ]
            refine' take_at (i := 18) (d := 54) (v := undef) rfl rfl (by kernel_rfl) (by kernel_rfl) (by kernel_rfl) (fun _ _ _ h => h) (Or.inr ⟨by rfl, rfl⟩) (J.out) ?_
            simp only [List.setIfInBounds_toArray, List.set_cons_zero, List.set_cons_succ]
            refine' take_at (i := 19) (d := 55) (v := undef) rfl rfl (by kernel_rfl) (by kernel_rfl) (by kernel_rfl) (fun _ _ _ h => h) (Or.inr ⟨by rfl, rfl⟩) (J.out) ?_
            simp only [List.setIfInBounds_toArray, List.set_cons_zero, List.set_cons_succ]
            refine' take_at (i := 20) (d := 56) (v := undef) rfl rfl (by kernel_rfl) (by kernel_rfl) (by kernel_rfl) (fun _ _ _ h => h) (Or.inr ⟨by rfl, rfl⟩) (J.out) ?_
            simp only [List.setIfInBounds_toArray, List.set_cons_zero, List.set_cons_succ]
            refine' take_at (i := 21) (d := 57) (v := undef) rfl rfl (by kernel_rfl) (by kernel_rfl) (by kernel_rfl) (fun _ _ _ h => h) (Or.inr ⟨by rfl, rfl⟩) (J.out) ?_
            simp only [List.setIfInBounds_toArray, List.set_cons_zero, List.set_cons_succ]
            refine' take_at (i := 22) (d := 58) (v := undef) rfl rfl (by kernel_rfl) (by kernel_rfl) (by kernel_rfl) (fun _ _ _ h => h) (Or.inr ⟨by rfl, rfl⟩) (J.out) ?_
            simp only [List.setIfInBounds_toArray, List.set_cons_zero, List.set_cons_succ]
            refine' take_at (i := 23) (d := 59) (v := undef) rfl rfl (by kernel_rfl) (by kernel_rfl) (by kernel_rfl) (fun _ _ _ h => h) (Or.inr ⟨by rfl, rfl⟩) (J.out) ?_
            simp only [List.setIfInBounds_toArray, List.set_cons_zero, List.set_cons_succ]
            refine' take_at (i := 24) (d := 60) (v := undef) rfl rfl (by kernel_rfl) (by kernel_rfl) (by kernel_rfl) (fun _ _ _ h => h) (Or.inr ⟨by rfl, rfl⟩) (J.out) ?_
            simp only [List.setIfInBounds_toArray, List.set_cons_zero, List.set_cons_succ]
            refine' take_at (i := 25) (d := 61) (v := undef) rfl rfl (by kernel_rfl) (by kernel_rfl) (by kernel_rfl) (fun _ _ _ h => h) (Or.inr ⟨by rfl, rfl⟩) (J.out) ?_
            simp only [List.setIfInBounds_toArray, List.set_cons_zero, List.set_cons_succ]
            refine' take_at (i := 26) (d := 62) (v := _) rfl rfl (by kernel_rfl) (by kernel_rfl) (by kernel_rfl) (fun _ _ _ h => h) (Or.inl ⟨by rfl, ?h26⟩) (J.out) ?_
            case h26 =>
              intro w hSw
              clear hSw
              go_simp
              with_reducible rfl
            simp only [List.setIfInBounds_toArray, List.set_cons_zero, List.set_cons_succ]
            refine wpAnyH_done (by kernel_rfl) ?_ _
            go_wp2
            go_ret
            exact ⟨rfl, J.out⟩
          | true =>
          refine' take_at (i := 12) (d := 48) (v := _) rfl rfl (by kernel_rfl) (by kernel_rfl) (by kernel_rfl) (fun _ _ _ h => h) (Or.inl ⟨by rfl, ?h12⟩) (J.out) ?_
          case h12 =>
            intro w hSw
            clear hSw
            go_simp
            with_reducible rfl
          simp only [List.setIfInBounds_toArray, List.set_cons_zero, List.set_cons_succ]
          refine' take_at (i := 13) (d := 49) (v := _) rfl rfl (by kernel_rfl) (by kernel_rfl) (by kernel_rfl) (fun _ _ _ h => h) (Or.inl ⟨by rfl, ?h13⟩) (J.out) ?_
          case h13 =>
            intro w hSw
            clear hSw
            go_simp
            with_reducible rfl
          simp only [List.setIfInBounds_toArray, List.set_cons_zero, List.set_cons_succ]
          refine' take_at (i := 14) (d := 50) (v := _) rfl rfl (by kernel_rfl) (by kernel_rfl) (by kernel_rfl) (fun _ _ _ h => h) (Or.inl ⟨by rfl, ?h14⟩) (J.out) ?_
          case h14 =>
            intro w hSw
            clear hSw
            go_simp
            with_reducible rfl
          simp only [List.setIfInBounds_toArray, List.set_cons_zero, List.set_cons_succ]
          refine' take_at (i := 15) (d := 51) (v := _) rfl rfl (by kernel_rfl) (by kernel_rfl) (by kernel_rfl) (fun _ _ _ h => h) (Or.inl ⟨by rfl, ?h15⟩) (J.out) ?_
          case h15 =>
            intro w hSw
            have t0 := HX.out.2.2 w hSw
            go_simp
            with_reducible rfl
          simp only [List.setIfInBounds_toArray, List.set_cons_zero, List.set_cons_succ]
          refine' take_at (i := 16) (d := 52) (v := _) rfl rfl (by kernel_rfl) (by kernel_rfl) (by kernel_rfl) (fun _ _ _ h => h) (Or.inl ⟨by rfl, ?h16⟩) (J.out) ?_
          case h16 =>
            intro w hSw
            have t0 := HX.out.2.2 w hSw
            go_simp
            with_reducible rfl
          simp only [List.setIfInBounds_toArray, List.set_cons_zero, List.set_cons_succ]
          refine' take_at (i := 17) (d := 53) (v := _) rfl rfl (by kernel_rfl) (by kernel_rfl) (by kernel_rfl) (fun _ _ _ h => h) (Or.inl ⟨by rfl, ?h17⟩) (J.out) ?_
          case h17 =>
            intro w hSw
            have t0 := HX.out.2.2 w hSw
            go_simp
            with_reducible rfl
          simp only [List.setIfInBounds_toArray, List.set_cons_zero, List.set_cons_succ]
          refine' take_at (i := 18) (d := 54) (v := _) rfl rfl (by kernel_rfl) (by kernel_rfl) (by kernel_rfl) (fun _ _ _ h => h) (Or.inl ⟨by rfl, ?h18⟩) (J.out) ?_
          case h18 =>
            intro w hSw
            have t0 := HX.out.2.2 w hSw
            go_simp
            with_reducible rfl
          simp only [List.setIfInBounds_toArray, List.set_cons_zero, List.set_cons_succ]
          refine' take_at (i := 20) (d := 56) (v := _) rfl rfl (by kernel_rfl) (by kernel_rfl) (by kernel_rfl) (fun _ _ _ h => h) (Or.inl ⟨by rfl, ?h20⟩) (J.out) ?_
          case h20 =>
            intro w hSw
            have t0 := HY.out.2.2 w hSw
            go_simp
            with_reducible rfl
          simp only [List.setIfInBounds_toArray, List.set_cons_zero, List.set_cons_succ]
          refine' take_at (i := 21) (d := 57) (v := _) rfl rfl (by kernel_rfl) (by kernel_rfl) (by kernel_rfl) (fun _ _ _ h => h) (Or.inl ⟨by rfl, ?h21⟩) (J.out) ?_
          case h21 =>
            intro w hSw
            have t0 := HY.out.2.2 w hSw
            go_simp
            with_reducible rfl
          simp only [List.setIfInBounds_toArray, List.set_cons_zero, List.set_cons_succ]
          refine' take_at (i := 22) (d := 58) (v := _) rfl rfl (by kernel_rfl) (by kernel_rfl) (by kernel_rfl) (fun _ _ _ h => h) (Or.inl ⟨by rfl, ?h22⟩) (J.out) ?_
          case h22 =>
            intro w hSw
            have t0 := HY.out.2.2 w hSw
            go_simp
            with_reducible rfl
          simp only [List.setIfInBounds_toArray, List.set_cons_zero, List.set_cons_succ]
          refine' take_at (i := 23) (d := 59) (v := _) rfl rfl (by kernel_rfl) (by kernel_rfl) (by kernel_rfl) (fun _ _ _ h => h) (Or.inl ⟨by rfl, ?h23⟩) (J.out) ?_
          case h23 =>
            intro w hSw
            have t0 := HY.out.2.2 w hSw
            go_simp
            with_reducible rfl
          simp only [List.setIfInBounds_toArray, List.set_cons_zero, List.set_cons_succ]
          refine wpAnyH_ready (rs := [19]) (by kernel_rfl) (by simp) ?_
          refine AllReadyH.cons (o := _) rfl (fun KQ hKQ => ?_) AllReadyH.nil
          go_simp
          refine (Pa.refTop_any x s2 HG.out.1.symm).mono ?_
          rintro e s3 ⟨x1, rfl, hx1, hb⟩
          have HX1 : Hid (x1.data.toList = Pl.top x.data.toList) := hx1
          have J1 : Hid (Below W.heap.size W s3) := J.out.trans (hb.mono J.out.size)
          clear hb J hx1
          have J := J1
          clear J1
          refine hKQ.out _ _ J.out (fun _ => ?_)
          clear hKQ KQ
          refine wpAnyH_ready (rs := [24]) (by kernel_rfl) (by simp) ?_
          refine AllReadyH.cons (o := _) rfl (fun KQ hKQ => ?_) AllReadyH.nil
          go_simp
          refine (Pa.refTop_any y s3 HG.out.2.symm).mono ?_
          rintro e s4 ⟨y1, rfl, hy1, hb⟩
          have HY1 : Hid (y1.data.toList = Pl.top y.data.toList) := hy1
          have J1 : Hid (Below W.heap.size W s4) := J.out.trans (hb.mono J.out.size)
          clear hb J hy1
          have J := J1
          clear J1
          refine hKQ.out _ _ J.out (fun _ => ?_)
          clear hKQ KQ
          cases hxy : (x1.toList == y1.toList) with
          | true =>
            refine' take_at (i := 25) (d := 61) (v := _) rfl rfl (by kernel_rfl) (by kernel_rfl) (by kernel_rfl) (fun _ _ _ h => h) (Or.inl ⟨by rfl, ?h25⟩) (J.out) ?_
            case h25 =>
              intro w hSw
              clear hSw
              go_simp
              with_reducible rfl
            simp only [List.setIfInBounds_toArray, List.set_cons_zero, List.set_cons_succ]
            refine' take_at (i := 26) (d := 62) (v := _) rfl rfl (by kernel_rfl) (by kernel_rfl) (by kernel_rfl) (fun _ _ _ h => h) (Or.inl ⟨by rfl, ?h26⟩) (J.out) ?_
            case h26 =>
              intro w hSw
              clear hSw
              go_simp
              with_reducible rfl
            simp only [List.setIfInBounds_toArray, List.set_cons_zero, List.set_cons_succ]
            refine wpAnyH_done (by kernel_rfl) ?_ _
            go_wp2
            go_ret
            exact ⟨rfl, J.out⟩
          | false =>
            have HN : Hid (∀ z ∈ xb.take (j + 1), Lk.Far x z) := (show ∀ z ∈ xb.take (j + 1), Lk.Far x z by
              intro z hz
              rw [List.take_add_one, HY.out.1] at hz
              rcases List.mem_append.1 hz with hz | hz
              · exact H2.out.2 z hz
              · simp at hz
                rw [hz]
                refine ⟨HG.out.1.symm, HG.out.2.symm, fun e => ?_⟩
                rw [← HX1.out, ← HY1.out] at e
                rw [Lib.toList_data, Lib.toList_data, e] at hxy
                simp at hxy)
            refine' take_at (i := 25) (d := 61) (v := _) rfl rfl (by kernel_rfl) (by kernel_rfl) (by kernel_rfl) (fun _ _ _ h => h) (Or.inl ⟨by rfl, ?h25⟩) (J.out) ?_
            case h25 =>
              intro w hSw
              clear hSw
              go_simp
              with_reducible rfl
            simp only [List.setIfInBounds_toArray, List.set_cons_zero, List.set_cons_succ]
            refine' take_at (i := 26) (d := 62) (v := _) rfl rfl (by kernel_rfl) (by kernel_rfl) (by kernel_rfl) (fun _ _ _ h => h) (Or.inl ⟨by rfl, ?h26⟩) (J.out) ?_
            case h26 =>
              intro w hSw
              clear hSw
              go_simp
              with_reducible rfl
            simp only [List.setIfInBounds_toArray, List.set_cons_zero, List.set_cons_succ]
            refine wpAnyH_done (by kernel_rfl) ?_ _
            clear hxy
            go_wp2
            go_roundw
            case rel => exact ⟨j + 1, by omega, by go_num, J.out, HN.out⟩
            case measure => simp [intOf]; omega
        · have hlj' : ¬ (j : Int) < (M : Int) := by omega
          have HN : Hid (∀ z ∈ xa.take (k + 1), ∀ y ∈ xb, Lk.Far z y) := (show ∀ z ∈ xa.take (k + 1), ∀ y ∈ xb, Lk.Far z y by
            intro z hz y hy
            rw [List.take_add_one, HX.out.1] at hz
            rcases List.mem_append.1 hz with hz | hz
            · exact H1.out.2 z hz y hy
            · simp at hz
              rw [hz]
              refine H2.out.2 y ?_
              rw [List.take_of_length_le (by rw [← HU.out.2]; omega)]
              exact hy)
          go_wp2
          go_roundw
          case rel => exact ⟨k + 1, by omega, by go_num, H2.out.1, HN.out⟩
          case measure => simp [intOf]; omega
    · have hlt' : ¬ (k : Int) < (N : Int) := by omega
      have HF : Hid (∀ x ∈ xa, ∀ y ∈ xb, Lk.Far x y) := (show ∀ x ∈ xa, ∀ y ∈ xb, Lk.Far x y by
        have h := H1.out.2
        rw [List.take_of_length_le (by rw [← HV.out.2]; omega)] at h
        exact h)
      obtain ⟨ta, b1, s1, h1⟩ : ∃ a b s, Lk.take [] 1 xa = (a, b, s) := ⟨_, _, _, rfl⟩
      obtain ⟨tb, b2, s2, h2⟩ : ∃ a b s, Lk.take s1 2 xb = (a, b, s) := ⟨_, _, _, rfl⟩
      obtain ⟨t, hd⟩ := Lk.far_frees xa xb s1 s2 (by rw [h1]) (by rw [h2])
      have hc := Lk.far_takes HF.out
      rw [h1] at hc
      simp only [] at hc
      rw [h2] at hc
      simp only [] at hc
      obtain ⟨n, hn⟩ : ∃ n : Int, n = (s1.length : Int) := ⟨_, rfl⟩
      obtain ⟨m, hm⟩ : ∃ n : Int, n = (s2.length : Int) := ⟨_, rfl⟩
      obtain ⟨d, hdd⟩ : ∃ z : Int, z = m - n := ⟨_, rfl⟩
      have HT : Hid (Lk.take [] 1 xa = (ta, b1, s1) ∧ Lk.take s1 2 xb = (tb, b2, s2) ∧ (s1.length : Int) = n ∧ (s2.length : Int) = m) := ⟨h1, h2, hn.symm, hm.symm⟩
      have HD : Hid (Lk.rest s2 1 = t ∧ Lk.rest t 2 = [] ∧ Lk.free s2 1 = n ∧ Lk.free t 2 = d) := ⟨hd.1, hd.2.1, by rw [hn]; exact hd.2.2.1, by rw [hdd, hm, hn]; exact hd.2.2.2⟩
      have HC : Hid ((b1 = true ∧ b2 = true) ∨ (N = 0 ∧ b1 = true) ∨ (¬ N = 0 ∧ M = 0 ∧ b2 = true)) := by
        rcases hc with hc | ⟨hc, hb⟩ | ⟨hc, hc2, hb⟩
        · rw [Bool.and_eq_true] at hc
          exact Or.inl hc
        · exact Or.inr (Or.inl ⟨by rw [HV.out.2, hc]; rfl, hb⟩)
        · refine Or.inr (Or.inr ⟨fun e => ?_, by rw [HU.out.2, hc2]; rfl, hb⟩)
          rw [HV.out.2] at e
          exact hc (List.length_eq_zero_iff.1 e)
      have HDD : Hid (d = m - n) := hdd
      clear h1 h2 hd hc hn hm hdd
      go_wp2_with fail
      refine (mine17_new HS.out.1 H1.out.1).mono ?_
      rintro e w2 ⟨q, F2, rfl, hM, hF, hb⟩
      have H2 : Hid (Mine17 LS W w2 q 0 [] F2) := hM
      clear hM hF hb H1
      go_wp2_with fail
      refine (H2.out.take HS.out.1 HS.out.2.1 (by decide) 1 (by unfold I64; decide) _ xa (HV.out.1.below H2.out.below) (by have := HV.out.2; have := HA.out.1; omega) HS.out.2.2.1 (fun i hi hne e => by have := HV.out.1.lt17 i hi hne; have := H2.out.hi i e; omega) ta b1 s1 HT.out.1).mono ?_
      rintro e w3 ⟨F3, rfl, hM, hmv⟩
      have H3 : Hid (Mine17 LS W w3 q 10 s1 F3) := hM
      clear hM hmv H2
      go_wp2_with fail
      refine (H3.out.len HS.out.1 (by decide) n HT.out.2.2.1).mono ?_
      rintro e w4 ⟨rfl, hM, hb⟩
      have H4 : Hid (Mine17 LS W w4 q 10 s1 F3) := hM
      clear hM hb H3
      go_wp2_with fail
      refine (H4.out.take HS.out.1 HS.out.2.1 (by decide) 2 (by unfold I64; decide) _ xb (HU.out.1.below H4.out.below) (by have := HU.out.2; have := HA.out.2; omega) HS.out.2.2.2 (fun i hi hne e => by have := HU.out.1.lt17 i hi hne; have := H4.out.hi i e; omega) tb b2 s2 HT.out.2.1).mono ?_
      rintro e w5 ⟨F5, rfl, hM, hmv⟩
      have H5 : Hid (Mine17 LS W w5 q 20 s2 F5) := hM
      clear hM hmv H4
      go_wp2_with fail
      refine (H5.out.len HS.out.1 (by decide) m HT.out.2.2.2).mono ?_
      rintro e w6 ⟨rfl, hM, hb⟩
      have H6 : Hid (Mine17 LS W w6 q 20 s2 F5) := hM
      clear hM hb H5
      have hwr : IntKind.wrap .i64 (m - n) = d := by
        have h1 := H6.out.fine.len
        have h2 : (s1.length : Int) ≤ (s2.length : Int) := by
          obtain ⟨t2, e2, _⟩ := Lk.take_ext s1 2 xb
          rw [HT.out.2.1] at e2
          simp only [] at e2
          rw [e2, List.length_append]
          omega
        have h3 := HT.out.2.2
        rw [HDD.out, IntKind.wrap_i64]
        omega
      have hnn : (n == n) = true := by simp
      have hdn : (d == d) = true := by simp
      rcases HC.out with ⟨rfl, rfl⟩ | ⟨hN0, rfl⟩ | ⟨hN0, hM0, rfl⟩
      · go_wp2_with fail
        refine (H6.out.free HS.out.1 HS.out.2.1 (by decide) 1 (by unfold I64; omega) n t HD.out.2.2.1 HD.out.1).mono ?_
        rintro e w7 ⟨F7, rfl, hM, hmv⟩
        have H7 : Hid (Mine17 LS W w7 q 20 t F7) := hM
        clear hM hmv H6
        go_wp2_with fail
        refine (H7.out.free HS.out.1 HS.out.2.1 (by decide) 2 (by unfold I64; omega) d [] HD.out.2.2.2 HD.out.2.1).mono ?_
        rintro e w8 ⟨F8, rfl, hM, hmv⟩
        have H8 : Hid (Mine17 LS W w8 q 20 [] F8) := hM
        clear hM hmv H7
        go_wp2_with fail
        refine (H8.out.len HS.out.1 (by decide) 0 rfl).mono ?_
        rintro e w9 ⟨rfl, hM, hb⟩
        have H9 : Hid (Mine17 LS W w9 q 20 [] F8) := hM
        clear hM hb H8
        go_wp2
        go_ret
        exact ⟨rfl, H9.out.below⟩
      · have hNb : ((N : Int) == 0) = true := by simp [hN0]
        clear hN0
        cases b2 with
        | true =>
          go_wp2_with fail
          refine (H6.out.free HS.out.1 HS.out.2.1 (by decide) 1 (by unfold I64; omega) n t HD.out.2.2.1 HD.out.1).mono ?_
          rintro e w7 ⟨F7, rfl, hM, hmv⟩
          have H7 : Hid (Mine17 LS W w7 q 20 t F7) := hM
          clear hM hmv H6
          go_wp2_with fail
          refine (H7.out.free HS.out.1 HS.out.2.1 (by decide) 2 (by unfold I64; omega) d [] HD.out.2.2.2 HD.out.2.1).mono ?_
          rintro e w8 ⟨F8, rfl, hM, hmv⟩
          have H8 : Hid (Mine17 LS W w8 q 20 [] F8) := hM
          clear hM hmv H7
          go_wp2_with fail
          refine (H8.out.len HS.out.1 (by decide) 0 rfl).mono ?_
          rintro e w9 ⟨rfl, hM, hb⟩
          have H9 : Hid (Mine17 LS W w9 q 20 [] F8) := hM
          clear hM hb H8
          go_wp2
          go_ret
          exact ⟨rfl, H9.out.below⟩
        | false =>
          go_wp2_with fail
          refine (H6.out.free HS.out.1 HS.out.2.1 (by decide) 1 (by unfold I64; omega) n t HD.out.2.2.1 HD.out.1).mono ?_
          rintro e w7 ⟨F7, rfl, hM, hmv⟩
          have H7 : Hid (Mine17 LS W w7 q 20 t F7) := hM
          clear hM hmv H6
          go_wp2_with fail
          refine (H7.out.free HS.out.1 HS.out.2.1 (by decide) 2 (by unfold I64; omega) d [] HD.out.2.2.2 HD.out.2.1).mono ?_
          rintro e w8 ⟨F8, rfl, hM, hmv⟩
          have H8 : Hid (Mine17 LS W w8 q 20 [] F8) := hM
          clear hM hmv H7
          go_wp2_with fail
          refine (H8.out.len HS.out.1 (by decide) 0 rfl).mono ?_
          rintro e w9 ⟨rfl, hM, hb⟩
          have H9 : Hid (Mine17 LS W w9 q 20 [] F8) := hM
          clear hM hb H8
          go_wp2
          go_ret
          exact ⟨rfl, H9.out.below⟩
      · have hNb : ((N : Int) == 0) = false := by simp [hN0]
        have hMb : ((M : Int) == 0) = true := by simp [hM0]
        clear hN0 hM0
        cases b1 with
        | true =>
          go_wp2_with fail
          refine (H6.out.free HS.out.1 HS.out.2.1 (by decide) 1 (by unfold I64; omega) n t HD.out.2.2.1 HD.out.1).mono ?_
          rintro e w7 ⟨F7, rfl, hM, hmv⟩
          have H7 : Hid (Mine17 LS W w7 q 20 t F7) := hM
          clear hM hmv H6
          go_wp2_with fail
          refine (H7.out.free HS.out.1 HS.out.2.1 (by decide) 2 (by unfold I64; omega) d [] HD.out.2.2.2 HD.out.2.1).mono ?_
          rintro e w8 ⟨F8, rfl, hM, hmv⟩
          have H8 : Hid (Mine17 LS W w8 q 20 [] F8) := hM
          clear hM hmv H7
          go_wp2_with fail
          refine (H8.out.len HS.out.1 (by decide) 0 rfl).mono ?_
          rintro e w9 ⟨rfl, hM, hb⟩
          have H9 : Hid (Mine17 LS W w9 q 20 [] F8) := hM
          clear hM hb H8
          go_wp2
          go_ret
          exact ⟨rfl, H9.out.below⟩
        | false =>
          go_wp2_with fail
          refine (H6.out.free HS.out.1 HS.out.2.1 (by decide) 1 (by unfold I64; omega) n t HD.out.2.2.1 HD.out.1).mono ?_
          rintro e w7 ⟨F7, rfl, hM, hmv⟩
          have H7 : Hid (Mine17 LS W w7 q 20 t F7) := hM
          clear hM hmv H6
          go_wp2_with fail
          refine (H7.out.free HS.out.1 HS.out.2.1 (by decide) 2 (by unfold I64; omega) d [] HD.out.2.2.2 HD.out.2.1).mono ?_
          rintro e w8 ⟨F8, rfl, hM, hmv⟩
          have H8 : Hid (Mine17 LS W w8 q 20 [] F8) := hM
          clear hM hmv H7
          go_wp2_with fail
          refine (H8.out.len HS.out.1 (by decide) 0 rfl).mono ?_
          rintro e w9 ⟨rfl, hM, hb⟩
          have H9 : Hid (Mine17 LS W w9 q 20 [] F8) := hM
          clear hM hb H8
          go_wp2
          go_ret
          exact ⟨rfl, H9.out.below⟩
end Go.Proofs.YtadgjinlblloiaaDoor
