/- The walk of the statement PathJoins: it answers true. -/
import Derived.Test.YtmmbomlpkjgclaaDoorWAwake
import Derived.Test.YtmmbomlpkjgclaaDoorRJoin
namespace Go.Proofs.YtmmbomlpkjgclaaDoor
open Go.RowKit

theorem parts_sizes {p : List UInt8} (hg : Pl.goodB p = true) {xs : List ByteArray} (h : xs.map (·.data.toList) = Pl.parts p) : ∀ x ∈ xs, x.size ≤ maxLen := by
  intro x hx
  have hm : x.data.toList ∈ Pl.parts p := by rw [← h]; exact List.mem_map_of_mem hx
  have hn := (Pl.good_parts hg).2.1
  unfold Pl.namesB at hn
  simp only [Bool.and_eq_true, List.all_eq_true] at hn
  have := hn.2 _ hm
  unfold Pl.nameB at this
  simp only [Bool.and_eq_true, decide_eq_true_eq] at this
  have hl := this.1.1.1.2
  rw [sz_list] at hl
  unfold maxLen; show x.size ≤ 2 ^ 63 - 1; omega

theorem parts_joinB {p : List UInt8} (hg : Pl.goodB p = true) : Pl.joinB (Pl.parts p) = true := by
  obtain ⟨e, hn, _⟩ := Pl.good_parts hg
  rw [Pl.joinB, hn, ← e, hg]; rfl

/-- path.Join of a path's own names, where Parts has laid them. -/
theorem join_parts (p : ByteArray) (hg : Pl.goodB p.data.toList = true) (xs : List ByteArray) (w0 w : World) (b : Nat) (hS : Std w) (hx : xs.map (·.data.toList) = Pl.parts p.data.toList) (hr : Row w0 w b xs) :
    Calls Tryd.prog 10 #[.slice (some ⟨b, 0, none⟩) xs.length xs.length] w fun e w' => e = .returned (.tuple #[.string p, .int .i64 0]) ∧ Below w.heap.size w w' := by
  have hl := parts_len hg
  rw [← hx, List.length_map] at hl
  refine (join_any xs b 0 xs.length w hS (by omega) hr.hi (Nat.le_refl _) hr.cells (parts_sizes hg hx)).mono ?_
  rintro e w' (⟨x, rfl, hd, _, hb⟩ | ⟨_, hj, _⟩)
  · rw [hx, ← (Pl.good_parts hg).1] at hd
    obtain rfl : x = p := ByteArray.ext (Array.toList_inj.1 hd)
    exact ⟨rfl, hb⟩
  · rw [hx, parts_joinB hg] at hj; cases hj

set_option maxHeartbeats 1000000 in
theorem joins_many (a : Option Addr) (n c : Nat) (p : ByteArray) (w : World) (hS : Std w) (hp : p.size ≤ maxLen) (hn : 20 < (n : Int)) :
    Calls Tryd.prog 5 #[.slice a n c, .string p] w fun e w' => e = .returned (.bool true) ∧ Below w.heap.size w w' := by
  have HS : Hid (Std w) := hS
  have HP : Hid (p.size ≤ maxLen) := hp
  unfold maxLen at hp
  have _ := HP
  clear hS
  go_enter Tryd.func5, Tryd.ntmps5
  go_wp2_with fail
  refine (awake_any _ HS.out).mono ?_
  rintro e w1 ⟨rfl, hb⟩
  have HB1 : Hid (Below w.heap.size w w1) := hb
  have HS1 : Hid (Std w1) := HS.out.below hb
  clear hb
  go_wp2
  go_ret
  exact ⟨rfl, HB1.out⟩

set_option maxHeartbeats 1000000 in
theorem joins_long (a : Option Addr) (n c : Nat) (p : ByteArray) (w : World) (hS : Std w) (hp : p.size ≤ maxLen) (hn : ¬ 20 < (n : Int)) (h2 : 400 < (p.size : Int)) :
    Calls Tryd.prog 5 #[.slice a n c, .string p] w fun e w' => e = .returned (.bool true) ∧ Below w.heap.size w w' := by
  have HS : Hid (Std w) := hS
  have HP : Hid (p.size ≤ maxLen) := hp
  unfold maxLen at hp
  have _ := HP
  clear hS
  go_enter Tryd.func5, Tryd.ntmps5
  go_wp2_with fail
  refine (awake_any _ HS.out).mono ?_
  rintro e w1 ⟨rfl, hb⟩
  have HB1 : Hid (Below w.heap.size w w1) := hb
  have HS1 : Hid (Std w1) := HS.out.below hb
  clear hb
  go_wp2
  go_ret
  exact ⟨rfl, HB1.out⟩

set_option maxHeartbeats 1000000 in
theorem joins_none0 (a : Option Addr) (c : Nat) (p : ByteArray) (w : World) (hS : Std w) (hp : p.size ≤ maxLen) (h2 : ¬ 400 < (p.size : Int)) (hg : Pl.goodB p.data.toList = false) :
    Calls Tryd.prog 5 #[.slice a 0 c, .string p] w fun e w' => e = .returned (.bool true) ∧ Below w.heap.size w w' := by
  have HS : Hid (Std w) := hS
  have HP : Hid (p.size ≤ maxLen) := hp
  unfold maxLen at hp
  have _ := HP
  clear hS
  have HG : Hid (Pl.goodB p.data.toList = false) := hg
  clear hg
  go_enter Tryd.func5, Tryd.ntmps5
  go_wp2_with fail
  refine (awake_any _ HS.out).mono ?_
  rintro e w1 ⟨rfl, hb⟩
  have HB1 : Hid (Below w.heap.size w w1) := hb
  have HS1 : Hid (Std w1) := HS.out.below hb
  clear hb
  go_wp2_with fail
  go_loop [5] (fun i => i = .int .i64 0) (fun _ => 0)
  case atStart => rfl
  case round =>
    obtain rfl := hrel
    go_wp2_with fail
    refine (join_none a c _).mono ?_
    rintro e w2 ⟨rfl, hb⟩
    have HB2 : Hid (Below w.heap.size w w2) := HB1.out.trans (hb.mono HB1.out.size)
    have HS2 : Hid (Std w2) := HS1.out.below hb
    clear hb
    go_wp2_with fail
    refine (refJoin_few a c _).mono ?_
    rintro e v ⟨rfl, hw⟩
    rw [hw]
    clear hw v
    go_wp2_with fail
    refine (parts_bad p _ HS2.out HP.out HG.out).mono ?_
    rintro e w3 ⟨rfl, hb⟩
    have HB3 : Hid (Below w.heap.size w w3) := HB2.out.trans (hb.mono HB2.out.size)
    have HS3 : Hid (Std w3) := HS2.out.below hb
    clear hb
    go_wp2_with fail
    refine (join_none none 0 _).mono ?_
    rintro e w4 ⟨rfl, hb⟩
    have HB4 : Hid (Below w.heap.size w w4) := HB3.out.trans (hb.mono HB3.out.size)
    have HS4 : Hid (Std w4) := HS3.out.below hb
    clear hb
    go_wp2_with fail
    refine (good_any p _ HS4.out HP.out).mono ?_
    rintro e w5 ⟨rfl, hb⟩
    rw [HG.out]
    have HB5 : Hid (Below w.heap.size w w5) := HB4.out.trans (hb.mono HB4.out.size)
    have HS5 : Hid (Std w5) := HS4.out.below hb
    clear hb
    go_wp2
    go_ret
    exact ⟨rfl, HB5.out⟩

set_option maxHeartbeats 1000000 in
theorem joins_none1 (a : Option Addr) (c : Nat) (p : ByteArray) (w : World) (hS : Std w) (hp : p.size ≤ maxLen) (h2 : ¬ 400 < (p.size : Int)) (hg : Pl.goodB p.data.toList = true) :
    Calls Tryd.prog 5 #[.slice a 0 c, .string p] w fun e w' => e = .returned (.bool true) ∧ Below w.heap.size w w' := by
  have HS : Hid (Std w) := hS
  have HP : Hid (p.size ≤ maxLen) := hp
  unfold maxLen at hp
  have _ := HP
  clear hS
  have HG : Hid (Pl.goodB p.data.toList = true) := hg
  clear hg
  go_enter Tryd.func5, Tryd.ntmps5
  go_wp2_with fail
  refine (awake_any _ HS.out).mono ?_
  rintro e w1 ⟨rfl, hb⟩
  have HB1 : Hid (Below w.heap.size w w1) := hb
  have HS1 : Hid (Std w1) := HS.out.below hb
  clear hb
  go_wp2_with fail
  go_loop [5] (fun i => i = .int .i64 0) (fun _ => 0)
  case atStart => rfl
  case round =>
    obtain rfl := hrel
    go_wp2_with fail
    refine (join_none a c _).mono ?_
    rintro e w2 ⟨rfl, hb⟩
    have HB2 : Hid (Below w.heap.size w w2) := HB1.out.trans (hb.mono HB1.out.size)
    have HS2 : Hid (Std w2) := HS1.out.below hb
    clear hb
    go_wp2_with fail
    refine (refJoin_few a c _).mono ?_
    rintro e v ⟨rfl, hw⟩
    rw [hw]
    clear hw v
    go_wp2_with fail
    refine (parts_good p _ HS2.out HG.out).mono ?_
    rintro e w3 ⟨ys, rfl, hys, hrow⟩
    have hb := hrow.below
    have HR : Hid (Row w2 w3 w2.heap.size ys) := hrow
    have HYS : Hid (ys.map (·.data.toList) = Pl.parts p.data.toList) := hys
    clear hrow hys
    have HB3 : Hid (Below w.heap.size w w3) := HB2.out.trans (hb.mono HB2.out.size)
    have HS3 : Hid (Std w3) := HS2.out.below hb
    clear hb
    go_wp2_with fail
    refine (join_parts p HG.out ys _ _ _ HS3.out HYS.out HR.out).mono ?_
    rintro e w4 ⟨rfl, hb⟩
    have HB4 : Hid (Below w.heap.size w w4) := HB3.out.trans (hb.mono HB3.out.size)
    have HS4 : Hid (Std w4) := HS3.out.below hb
    clear hb
    go_wp2_with fail
    refine (good_any p _ HS4.out HP.out).mono ?_
    rintro e w5 ⟨rfl, hb⟩
    rw [HG.out]
    have HB5 : Hid (Below w.heap.size w w5) := HB4.out.trans (hb.mono HB4.out.size)
    have HS5 : Hid (Std w5) := HS4.out.below hb
    clear hb
    go_wp2
    go_ret
    exact ⟨rfl, HB5.out⟩

set_option maxHeartbeats 1000000 in
theorem joins_some00 (xs : List ByteArray) (b o n c : Nat) (p : ByteArray) (w : World) (hS : Std w) (hp : p.size ≤ maxLen) (hN : n = xs.length) (hnc : n ≤ c) (hn : ¬ 20 < (n : Int)) (hbw : b < w.heap.size) (hcells : ∀ (j : Nat) x, xs[j]? = some x → w.cell? ⟨b, o + j, none⟩ = some (.string x)) (hsz : ∀ x ∈ xs, x.size ≤ maxLen) (h2 : ¬ 400 < (p.size : Int)) (hj : Pl.joinB (xs.map (·.data.toList)) = false) (hg : Pl.goodB p.data.toList = false) :
    Calls Tryd.prog 5 #[.slice (some ⟨b, o, none⟩) n c, .string p] w fun e w' => e = .returned (.bool true) ∧ Below w.heap.size w w' := by
  have HS : Hid (Std w) := hS
  have HP : Hid (p.size ≤ maxLen) := hp
  unfold maxLen at hp
  have _ := HP
  clear hS
  have HN : Hid (n = xs.length) := hN
  have HC : Hid (∀ (j : Nat) x, xs[j]? = some x → w.cell? ⟨b, o + j, none⟩ = some (.string x)) := hcells
  have HZ : Hid (∀ x ∈ xs, x.size ≤ maxLen) := hsz
  have HJ : Hid (Pl.joinB (xs.map (·.data.toList)) = false) := hj
  have HG : Hid (Pl.goodB p.data.toList = false) := hg
  clear hN hcells hsz hj hg
  go_enter Tryd.func5, Tryd.ntmps5
  go_wp2_with fail
  refine (awake_any _ HS.out).mono ?_
  rintro e w1 ⟨rfl, hb⟩
  have HB1 : Hid (Below w.heap.size w w1) := hb
  have HS1 : Hid (Std w1) := HS.out.below hb
  clear hb
  have hbw1 : b < w1.heap.size := Nat.lt_of_lt_of_le hbw HB1.out.size
  have HC1 : Hid (∀ (j : Nat) x, xs[j]? = some x → w1.cell? ⟨b, o + j, none⟩ = some (.string x)) := fun j x hx => by
    rw [HB1.out.cell (p := ⟨b, o + j, none⟩) hbw]; exact HC.out j x hx
  clear HC
  go_wp2_with fail
  go_loop [5] (fun i => ∃ k : Nat, k ≤ n ∧ i = .int .i64 k ∧ ∀ j x, j < k → xs[j]? = some x → x.size ≤ 100) (fun i => n - (intOf i).toNat)
  case atStart => exact ⟨0, Nat.zero_le _, rfl, fun j x h => absurd h (Nat.not_lt_zero _)⟩
  case round =>
    obtain ⟨k, hk, rfl, hall⟩ := hrel
    have HA : Hid (∀ j x, j < k → xs[j]? = some x → x.size ≤ 100) := hall
    clear hall
    by_cases hlt : k < n
    · obtain ⟨x, hx⟩ : ∃ x, xs[k]? = some x := ⟨xs[k]'(by rw [← HN.out]; exact hlt), List.getElem?_eq_getElem _⟩
      have hcell := HC1.out k x hx
      have HX : Hid (xs[k]? = some x) := hx
      have hxm : x.size ≤ 2 ^ 63 - 1 := HZ.out x (List.mem_of_getElem? hx)
      clear hx
      have hlt' : (k : Int) < n := by omega
      by_cases h100 : 100 < (x.size : Int)
      · go_wp2
        go_ret
        exact ⟨rfl, HB1.out⟩
      · go_wp2
        go_round
        case rel =>
          refine ⟨k + 1, by omega, by go_num, ?_⟩
          intro j y hj hy
          rcases Nat.lt_or_ge j k with h | h
          · exact HA.out j y h hy
          · obtain rfl : j = k := by omega
            obtain rfl : x = y := Option.some.inj (HX.out.symm.trans hy)
            omega
        case measure => simp [intOf]; omega
    · have hkn : k = n := by omega
      subst hkn
      clear HA
      go_wp2_with fail
      rw [HN.out]
      refine (join_any xs b o c _ HS1.out (by rw [← HN.out]; omega) hbw1 (by rw [← HN.out]; exact hnc) HC1.out HZ.out).mono ?_
      rintro e w2 (⟨_, _, _, hj, _⟩ | ⟨rfl, _, hb⟩)
      case inl => rw [HJ.out] at hj; cases hj
      have HB2 : Hid (Below w.heap.size w w2) := HB1.out.trans (hb.mono HB1.out.size)
      have HS2 : Hid (Std w2) := HS1.out.below hb
      clear hb
      have HC2 : Hid (∀ (j : Nat) x, xs[j]? = some x → w2.cell? ⟨b, o + j, none⟩ = some (.string x)) := fun j x hx => by
        rw [HB2.out.cell (p := ⟨b, o + j, none⟩) hbw, ← HB1.out.cell (p := ⟨b, o + j, none⟩) hbw]; exact HC1.out j x hx
      go_wp2_with fail
      refine (refJoin_any xs b o c _ (by rw [← HN.out]; omega) HC2.out HZ.out).mono ?_
      rintro e v ⟨⟨_, _, _, hj⟩ | ⟨rfl, _⟩, hw⟩
      case inl => rw [HJ.out] at hj; cases hj
      rw [hw]
      clear hw v
      go_wp2_with fail
      refine (parts_bad p _ HS2.out HP.out HG.out).mono ?_
      rintro e w3 ⟨rfl, hb⟩
      have HB3 : Hid (Below w.heap.size w w3) := HB2.out.trans (hb.mono HB2.out.size)
      have HS3 : Hid (Std w3) := HS2.out.below hb
      clear hb
      go_wp2_with fail
      refine (join_none none 0 _).mono ?_
      rintro e w4 ⟨rfl, hb⟩
      have HB4 : Hid (Below w.heap.size w w4) := HB3.out.trans (hb.mono HB3.out.size)
      have HS4 : Hid (Std w4) := HS3.out.below hb
      clear hb
      go_wp2_with fail
      refine (good_any p _ HS4.out HP.out).mono ?_
      rintro e w5 ⟨rfl, hb⟩
      rw [HG.out]
      have HB5 : Hid (Below w.heap.size w w5) := HB4.out.trans (hb.mono HB4.out.size)
      have HS5 : Hid (Std w5) := HS4.out.below hb
      clear hb
      go_wp2
      go_ret
      exact ⟨rfl, HB5.out⟩

set_option maxHeartbeats 1000000 in
theorem joins_some01 (xs : List ByteArray) (b o n c : Nat) (p : ByteArray) (w : World) (hS : Std w) (hp : p.size ≤ maxLen) (hN : n = xs.length) (hnc : n ≤ c) (hn : ¬ 20 < (n : Int)) (hbw : b < w.heap.size) (hcells : ∀ (j : Nat) x, xs[j]? = some x → w.cell? ⟨b, o + j, none⟩ = some (.string x)) (hsz : ∀ x ∈ xs, x.size ≤ maxLen) (h2 : ¬ 400 < (p.size : Int)) (hj : Pl.joinB (xs.map (·.data.toList)) = false) (hg : Pl.goodB p.data.toList = true) :
    Calls Tryd.prog 5 #[.slice (some ⟨b, o, none⟩) n c, .string p] w fun e w' => e = .returned (.bool true) ∧ Below w.heap.size w w' := by
  have HS : Hid (Std w) := hS
  have HP : Hid (p.size ≤ maxLen) := hp
  unfold maxLen at hp
  have _ := HP
  clear hS
  have HN : Hid (n = xs.length) := hN
  have HC : Hid (∀ (j : Nat) x, xs[j]? = some x → w.cell? ⟨b, o + j, none⟩ = some (.string x)) := hcells
  have HZ : Hid (∀ x ∈ xs, x.size ≤ maxLen) := hsz
  have HJ : Hid (Pl.joinB (xs.map (·.data.toList)) = false) := hj
  have HG : Hid (Pl.goodB p.data.toList = true) := hg
  clear hN hcells hsz hj hg
  go_enter Tryd.func5, Tryd.ntmps5
  go_wp2_with fail
  refine (awake_any _ HS.out).mono ?_
  rintro e w1 ⟨rfl, hb⟩
  have HB1 : Hid (Below w.heap.size w w1) := hb
  have HS1 : Hid (Std w1) := HS.out.below hb
  clear hb
  have hbw1 : b < w1.heap.size := Nat.lt_of_lt_of_le hbw HB1.out.size
  have HC1 : Hid (∀ (j : Nat) x, xs[j]? = some x → w1.cell? ⟨b, o + j, none⟩ = some (.string x)) := fun j x hx => by
    rw [HB1.out.cell (p := ⟨b, o + j, none⟩) hbw]; exact HC.out j x hx
  clear HC
  go_wp2_with fail
  go_loop [5] (fun i => ∃ k : Nat, k ≤ n ∧ i = .int .i64 k ∧ ∀ j x, j < k → xs[j]? = some x → x.size ≤ 100) (fun i => n - (intOf i).toNat)
  case atStart => exact ⟨0, Nat.zero_le _, rfl, fun j x h => absurd h (Nat.not_lt_zero _)⟩
  case round =>
    obtain ⟨k, hk, rfl, hall⟩ := hrel
    have HA : Hid (∀ j x, j < k → xs[j]? = some x → x.size ≤ 100) := hall
    clear hall
    by_cases hlt : k < n
    · obtain ⟨x, hx⟩ : ∃ x, xs[k]? = some x := ⟨xs[k]'(by rw [← HN.out]; exact hlt), List.getElem?_eq_getElem _⟩
      have hcell := HC1.out k x hx
      have HX : Hid (xs[k]? = some x) := hx
      have hxm : x.size ≤ 2 ^ 63 - 1 := HZ.out x (List.mem_of_getElem? hx)
      clear hx
      have hlt' : (k : Int) < n := by omega
      by_cases h100 : 100 < (x.size : Int)
      · go_wp2
        go_ret
        exact ⟨rfl, HB1.out⟩
      · go_wp2
        go_round
        case rel =>
          refine ⟨k + 1, by omega, by go_num, ?_⟩
          intro j y hj hy
          rcases Nat.lt_or_ge j k with h | h
          · exact HA.out j y h hy
          · obtain rfl : j = k := by omega
            obtain rfl : x = y := Option.some.inj (HX.out.symm.trans hy)
            omega
        case measure => simp [intOf]; omega
    · have hkn : k = n := by omega
      subst hkn
      clear HA
      go_wp2_with fail
      rw [HN.out]
      refine (join_any xs b o c _ HS1.out (by rw [← HN.out]; omega) hbw1 (by rw [← HN.out]; exact hnc) HC1.out HZ.out).mono ?_
      rintro e w2 (⟨_, _, _, hj, _⟩ | ⟨rfl, _, hb⟩)
      case inl => rw [HJ.out] at hj; cases hj
      have HB2 : Hid (Below w.heap.size w w2) := HB1.out.trans (hb.mono HB1.out.size)
      have HS2 : Hid (Std w2) := HS1.out.below hb
      clear hb
      have HC2 : Hid (∀ (j : Nat) x, xs[j]? = some x → w2.cell? ⟨b, o + j, none⟩ = some (.string x)) := fun j x hx => by
        rw [HB2.out.cell (p := ⟨b, o + j, none⟩) hbw, ← HB1.out.cell (p := ⟨b, o + j, none⟩) hbw]; exact HC1.out j x hx
      go_wp2_with fail
      refine (refJoin_any xs b o c _ (by rw [← HN.out]; omega) HC2.out HZ.out).mono ?_
      rintro e v ⟨⟨_, _, _, hj⟩ | ⟨rfl, _⟩, hw⟩
      case inl => rw [HJ.out] at hj; cases hj
      rw [hw]
      clear hw v
      go_wp2_with fail
      refine (parts_good p _ HS2.out HG.out).mono ?_
      rintro e w3 ⟨ys, rfl, hys, hrow⟩
      have hb := hrow.below
      have HR : Hid (Row w2 w3 w2.heap.size ys) := hrow
      have HYS : Hid (ys.map (·.data.toList) = Pl.parts p.data.toList) := hys
      clear hrow hys
      have HB3 : Hid (Below w.heap.size w w3) := HB2.out.trans (hb.mono HB2.out.size)
      have HS3 : Hid (Std w3) := HS2.out.below hb
      clear hb
      go_wp2_with fail
      refine (join_parts p HG.out ys _ _ _ HS3.out HYS.out HR.out).mono ?_
      rintro e w4 ⟨rfl, hb⟩
      have HB4 : Hid (Below w.heap.size w w4) := HB3.out.trans (hb.mono HB3.out.size)
      have HS4 : Hid (Std w4) := HS3.out.below hb
      clear hb
      go_wp2_with fail
      refine (good_any p _ HS4.out HP.out).mono ?_
      rintro e w5 ⟨rfl, hb⟩
      rw [HG.out]
      have HB5 : Hid (Below w.heap.size w w5) := HB4.out.trans (hb.mono HB4.out.size)
      have HS5 : Hid (Std w5) := HS4.out.below hb
      clear hb
      go_wp2
      go_ret
      exact ⟨rfl, HB5.out⟩

set_option maxHeartbeats 1000000 in
theorem joins_some10 (xs : List ByteArray) (b o n c : Nat) (p : ByteArray) (w : World) (hS : Std w) (hp : p.size ≤ maxLen) (hN : n = xs.length) (hnc : n ≤ c) (hn : ¬ 20 < (n : Int)) (hbw : b < w.heap.size) (hcells : ∀ (j : Nat) x, xs[j]? = some x → w.cell? ⟨b, o + j, none⟩ = some (.string x)) (hsz : ∀ x ∈ xs, x.size ≤ maxLen) (h2 : ¬ 400 < (p.size : Int)) (hj : Pl.joinB (xs.map (·.data.toList)) = true) (hg : Pl.goodB p.data.toList = false) :
    Calls Tryd.prog 5 #[.slice (some ⟨b, o, none⟩) n c, .string p] w fun e w' => e = .returned (.bool true) ∧ Below w.heap.size w w' := by
  have HS : Hid (Std w) := hS
  have HP : Hid (p.size ≤ maxLen) := hp
  unfold maxLen at hp
  have _ := HP
  clear hS
  have HN : Hid (n = xs.length) := hN
  have HC : Hid (∀ (j : Nat) x, xs[j]? = some x → w.cell? ⟨b, o + j, none⟩ = some (.string x)) := hcells
  have HZ : Hid (∀ x ∈ xs, x.size ≤ maxLen) := hsz
  have HJ : Hid (Pl.joinB (xs.map (·.data.toList)) = true) := hj
  have HG : Hid (Pl.goodB p.data.toList = false) := hg
  clear hN hcells hsz hj hg
  go_enter Tryd.func5, Tryd.ntmps5
  go_wp2_with fail
  refine (awake_any _ HS.out).mono ?_
  rintro e w1 ⟨rfl, hb⟩
  have HB1 : Hid (Below w.heap.size w w1) := hb
  have HS1 : Hid (Std w1) := HS.out.below hb
  clear hb
  have hbw1 : b < w1.heap.size := Nat.lt_of_lt_of_le hbw HB1.out.size
  have HC1 : Hid (∀ (j : Nat) x, xs[j]? = some x → w1.cell? ⟨b, o + j, none⟩ = some (.string x)) := fun j x hx => by
    rw [HB1.out.cell (p := ⟨b, o + j, none⟩) hbw]; exact HC.out j x hx
  clear HC
  go_wp2_with fail
  go_loop [5] (fun i => ∃ k : Nat, k ≤ n ∧ i = .int .i64 k ∧ ∀ j x, j < k → xs[j]? = some x → x.size ≤ 100) (fun i => n - (intOf i).toNat)
  case atStart => exact ⟨0, Nat.zero_le _, rfl, fun j x h => absurd h (Nat.not_lt_zero _)⟩
  case round =>
    obtain ⟨k, hk, rfl, hall⟩ := hrel
    have HA : Hid (∀ j x, j < k → xs[j]? = some x → x.size ≤ 100) := hall
    clear hall
    by_cases hlt : k < n
    · obtain ⟨x, hx⟩ : ∃ x, xs[k]? = some x := ⟨xs[k]'(by rw [← HN.out]; exact hlt), List.getElem?_eq_getElem _⟩
      have hcell := HC1.out k x hx
      have HX : Hid (xs[k]? = some x) := hx
      have hxm : x.size ≤ 2 ^ 63 - 1 := HZ.out x (List.mem_of_getElem? hx)
      clear hx
      have hlt' : (k : Int) < n := by omega
      by_cases h100 : 100 < (x.size : Int)
      · go_wp2
        go_ret
        exact ⟨rfl, HB1.out⟩
      · go_wp2
        go_round
        case rel =>
          refine ⟨k + 1, by omega, by go_num, ?_⟩
          intro j y hj hy
          rcases Nat.lt_or_ge j k with h | h
          · exact HA.out j y h hy
          · obtain rfl : j = k := by omega
            obtain rfl : x = y := Option.some.inj (HX.out.symm.trans hy)
            omega
        case measure => simp [intOf]; omega
    · have hkn : k = n := by omega
      subst hkn
      clear HA
      go_wp2_with fail
      rw [HN.out]
      refine (join_any xs b o c _ HS1.out (by rw [← HN.out]; omega) hbw1 (by rw [← HN.out]; exact hnc) HC1.out HZ.out).mono ?_
      rintro e w2 (⟨x, rfl, hx, _, hb⟩ | ⟨_, hj, _⟩)
      case inr => rw [HJ.out] at hj; cases hj
      have HX : Hid (x.data.toList = Pl.of (xs.map (·.data.toList))) := hx
      clear hx
      have HB2 : Hid (Below w.heap.size w w2) := HB1.out.trans (hb.mono HB1.out.size)
      have HS2 : Hid (Std w2) := HS1.out.below hb
      clear hb
      have HC2 : Hid (∀ (j : Nat) x, xs[j]? = some x → w2.cell? ⟨b, o + j, none⟩ = some (.string x)) := fun j x hx => by
        rw [HB2.out.cell (p := ⟨b, o + j, none⟩) hbw, ← HB1.out.cell (p := ⟨b, o + j, none⟩) hbw]; exact HC1.out j x hx
      go_wp2_with fail
      refine (refJoin_any xs b o c _ (by rw [← HN.out]; omega) HC2.out HZ.out).mono ?_
      rintro e v ⟨⟨y, rfl, hy, _⟩ | ⟨_, hj⟩, hw⟩
      case inr => rw [HJ.out] at hj; cases hj
      obtain rfl : y = x := ByteArray.ext (Array.toList_inj.1 (hy.trans HX.out.symm))
      rw [hw]
      clear hw v hy HX
      go_wp2_with fail
      refine (parts_bad p _ HS2.out HP.out HG.out).mono ?_
      rintro e w3 ⟨rfl, hb⟩
      have HB3 : Hid (Below w.heap.size w w3) := HB2.out.trans (hb.mono HB2.out.size)
      have HS3 : Hid (Std w3) := HS2.out.below hb
      clear hb
      go_wp2_with fail
      refine (join_none none 0 _).mono ?_
      rintro e w4 ⟨rfl, hb⟩
      have HB4 : Hid (Below w.heap.size w w4) := HB3.out.trans (hb.mono HB3.out.size)
      have HS4 : Hid (Std w4) := HS3.out.below hb
      clear hb
      go_wp2_with fail
      refine (good_any p _ HS4.out HP.out).mono ?_
      rintro e w5 ⟨rfl, hb⟩
      rw [HG.out]
      have HB5 : Hid (Below w.heap.size w w5) := HB4.out.trans (hb.mono HB4.out.size)
      have HS5 : Hid (Std w5) := HS4.out.below hb
      clear hb
      go_wp2
      go_ret
      exact ⟨rfl, HB5.out⟩

set_option maxHeartbeats 1000000 in
theorem joins_some11 (xs : List ByteArray) (b o n c : Nat) (p : ByteArray) (w : World) (hS : Std w) (hp : p.size ≤ maxLen) (hN : n = xs.length) (hnc : n ≤ c) (hn : ¬ 20 < (n : Int)) (hbw : b < w.heap.size) (hcells : ∀ (j : Nat) x, xs[j]? = some x → w.cell? ⟨b, o + j, none⟩ = some (.string x)) (hsz : ∀ x ∈ xs, x.size ≤ maxLen) (h2 : ¬ 400 < (p.size : Int)) (hj : Pl.joinB (xs.map (·.data.toList)) = true) (hg : Pl.goodB p.data.toList = true) :
    Calls Tryd.prog 5 #[.slice (some ⟨b, o, none⟩) n c, .string p] w fun e w' => e = .returned (.bool true) ∧ Below w.heap.size w w' := by
  have HS : Hid (Std w) := hS
  have HP : Hid (p.size ≤ maxLen) := hp
  unfold maxLen at hp
  have _ := HP
  clear hS
  have HN : Hid (n = xs.length) := hN
  have HC : Hid (∀ (j : Nat) x, xs[j]? = some x → w.cell? ⟨b, o + j, none⟩ = some (.string x)) := hcells
  have HZ : Hid (∀ x ∈ xs, x.size ≤ maxLen) := hsz
  have HJ : Hid (Pl.joinB (xs.map (·.data.toList)) = true) := hj
  have HG : Hid (Pl.goodB p.data.toList = true) := hg
  clear hN hcells hsz hj hg
  go_enter Tryd.func5, Tryd.ntmps5
  go_wp2_with fail
  refine (awake_any _ HS.out).mono ?_
  rintro e w1 ⟨rfl, hb⟩
  have HB1 : Hid (Below w.heap.size w w1) := hb
  have HS1 : Hid (Std w1) := HS.out.below hb
  clear hb
  have hbw1 : b < w1.heap.size := Nat.lt_of_lt_of_le hbw HB1.out.size
  have HC1 : Hid (∀ (j : Nat) x, xs[j]? = some x → w1.cell? ⟨b, o + j, none⟩ = some (.string x)) := fun j x hx => by
    rw [HB1.out.cell (p := ⟨b, o + j, none⟩) hbw]; exact HC.out j x hx
  clear HC
  go_wp2_with fail
  go_loop [5] (fun i => ∃ k : Nat, k ≤ n ∧ i = .int .i64 k ∧ ∀ j x, j < k → xs[j]? = some x → x.size ≤ 100) (fun i => n - (intOf i).toNat)
  case atStart => exact ⟨0, Nat.zero_le _, rfl, fun j x h => absurd h (Nat.not_lt_zero _)⟩
  case round =>
    obtain ⟨k, hk, rfl, hall⟩ := hrel
    have HA : Hid (∀ j x, j < k → xs[j]? = some x → x.size ≤ 100) := hall
    clear hall
    by_cases hlt : k < n
    · obtain ⟨x, hx⟩ : ∃ x, xs[k]? = some x := ⟨xs[k]'(by rw [← HN.out]; exact hlt), List.getElem?_eq_getElem _⟩
      have hcell := HC1.out k x hx
      have HX : Hid (xs[k]? = some x) := hx
      have hxm : x.size ≤ 2 ^ 63 - 1 := HZ.out x (List.mem_of_getElem? hx)
      clear hx
      have hlt' : (k : Int) < n := by omega
      by_cases h100 : 100 < (x.size : Int)
      · go_wp2
        go_ret
        exact ⟨rfl, HB1.out⟩
      · go_wp2
        go_round
        case rel =>
          refine ⟨k + 1, by omega, by go_num, ?_⟩
          intro j y hj hy
          rcases Nat.lt_or_ge j k with h | h
          · exact HA.out j y h hy
          · obtain rfl : j = k := by omega
            obtain rfl : x = y := Option.some.inj (HX.out.symm.trans hy)
            omega
        case measure => simp [intOf]; omega
    · have hkn : k = n := by omega
      subst hkn
      clear HA
      go_wp2_with fail
      rw [HN.out]
      refine (join_any xs b o c _ HS1.out (by rw [← HN.out]; omega) hbw1 (by rw [← HN.out]; exact hnc) HC1.out HZ.out).mono ?_
      rintro e w2 (⟨x, rfl, hx, _, hb⟩ | ⟨_, hj, _⟩)
      case inr => rw [HJ.out] at hj; cases hj
      have HX : Hid (x.data.toList = Pl.of (xs.map (·.data.toList))) := hx
      clear hx
      have HB2 : Hid (Below w.heap.size w w2) := HB1.out.trans (hb.mono HB1.out.size)
      have HS2 : Hid (Std w2) := HS1.out.below hb
      clear hb
      have HC2 : Hid (∀ (j : Nat) x, xs[j]? = some x → w2.cell? ⟨b, o + j, none⟩ = some (.string x)) := fun j x hx => by
        rw [HB2.out.cell (p := ⟨b, o + j, none⟩) hbw, ← HB1.out.cell (p := ⟨b, o + j, none⟩) hbw]; exact HC1.out j x hx
      go_wp2_with fail
      refine (refJoin_any xs b o c _ (by rw [← HN.out]; omega) HC2.out HZ.out).mono ?_
      rintro e v ⟨⟨y, rfl, hy, _⟩ | ⟨_, hj⟩, hw⟩
      case inr => rw [HJ.out] at hj; cases hj
      obtain rfl : y = x := ByteArray.ext (Array.toList_inj.1 (hy.trans HX.out.symm))
      rw [hw]
      clear hw v hy HX
      go_wp2_with fail
      refine (parts_good p _ HS2.out HG.out).mono ?_
      rintro e w3 ⟨ys, rfl, hys, hrow⟩
      have hb := hrow.below
      have HR : Hid (Row w2 w3 w2.heap.size ys) := hrow
      have HYS : Hid (ys.map (·.data.toList) = Pl.parts p.data.toList) := hys
      clear hrow hys
      have HB3 : Hid (Below w.heap.size w w3) := HB2.out.trans (hb.mono HB2.out.size)
      have HS3 : Hid (Std w3) := HS2.out.below hb
      clear hb
      go_wp2_with fail
      refine (join_parts p HG.out ys _ _ _ HS3.out HYS.out HR.out).mono ?_
      rintro e w4 ⟨rfl, hb⟩
      have HB4 : Hid (Below w.heap.size w w4) := HB3.out.trans (hb.mono HB3.out.size)
      have HS4 : Hid (Std w4) := HS3.out.below hb
      clear hb
      go_wp2_with fail
      refine (good_any p _ HS4.out HP.out).mono ?_
      rintro e w5 ⟨rfl, hb⟩
      rw [HG.out]
      have HB5 : Hid (Below w.heap.size w w5) := HB4.out.trans (hb.mono HB4.out.size)
      have HS5 : Hid (Std w5) := HS4.out.below hb
      clear hb
      go_wp2
      go_ret
      exact ⟨rfl, HB5.out⟩

theorem joins_nil (a : Option Addr) (c : Nat) (p : ByteArray) (w : World) (hS : Std w) (hp : p.size ≤ maxLen) :
    Calls Tryd.prog 5 #[.slice a 0 c, .string p] w fun e w' => e = .returned (.bool true) ∧ Below w.heap.size w w' := by
  by_cases h2 : 400 < (p.size : Int)
  · exact joins_long a 0 c p w hS hp (by decide) h2
  cases hg : Pl.goodB p.data.toList with
  | false => exact joins_none0 a c p w hS hp h2 hg
  | true => exact joins_none1 a c p w hS hp h2 hg

theorem joins_any (xs : List ByteArray) (b o c : Nat) (p : ByteArray) (w : World) (hS : Std w) (hp : p.size ≤ maxLen) (hnc : xs.length ≤ c) (hbw : b < w.heap.size) (hcells : ∀ (j : Nat) x, xs[j]? = some x → w.cell? ⟨b, o + j, none⟩ = some (.string x)) (hsz : ∀ x ∈ xs, x.size ≤ maxLen) :
    Calls Tryd.prog 5 #[.slice (some ⟨b, o, none⟩) xs.length c, .string p] w fun e w' => e = .returned (.bool true) ∧ Below w.heap.size w w' := by
  by_cases hn : 20 < (xs.length : Int)
  · exact joins_many _ _ c p w hS hp hn
  by_cases h2 : 400 < (p.size : Int)
  · exact joins_long _ _ c p w hS hp hn h2
  cases hj : Pl.joinB (xs.map (·.data.toList)) with
  | false =>
    cases hg : Pl.goodB p.data.toList with
    | false => exact joins_some00 xs b o _ c p w hS hp rfl hnc hn hbw hcells hsz h2 hj hg
    | true => exact joins_some01 xs b o _ c p w hS hp rfl hnc hn hbw hcells hsz h2 hj hg
  | true =>
    cases hg : Pl.goodB p.data.toList with
    | false => exact joins_some10 xs b o _ c p w hS hp rfl hnc hn hbw hcells hsz h2 hj hg
    | true => exact joins_some11 xs b o _ c p w hS hp rfl hnc hn hbw hcells hsz h2 hj hg
end Go.Proofs.YtmmbomlpkjgclaaDoor
