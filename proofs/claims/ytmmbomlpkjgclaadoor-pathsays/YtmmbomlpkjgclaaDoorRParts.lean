/- What the reference's Parts and Good answer. -/
import Derived.Test.YtmmbomlpkjgclaaDoorRCut
namespace Go.Proofs.YtmmbomlpkjgclaaDoor
open Go.RowKit

theorem ret_slice {a : Option Addr} {n m c : Nat} (h : n = m) : Ending.returned (.slice a n c) = .returned (.slice a m c) := by rw [h]

/-- What Parts tells, the program's or the reference's. -/
def PartsPost (p : ByteArray) (w : World) (e : Ending) (w' : World) : Prop :=
  (Pl.goodB p.data.toList = true ∧ ∃ (g cap : Nat) (xs : List ByteArray), e = .returned (.slice (some ⟨g, 0, none⟩) xs.length cap) ∧ xs.length ≤ cap ∧ xs.map (·.data.toList) = Pl.parts p.data.toList ∧ Row w w' g xs) ∨
  (Pl.goodB p.data.toList = false ∧ e = .returned (.slice none 0 0) ∧ Below w.heap.size w w')

theorem head_eq (p : ByteArray) (h : 0 < p.size) : Lib.hasPrefix p.data.toList [47] = (p[0] == 47) := by
  obtain ⟨⟨l⟩⟩ := p
  cases l with
  | nil => exact absurd h (by decide)
  | cons c r =>
    show List.isPrefixOf [47] (c :: r) = (c == 47)
    rw [List.isPrefixOf_cons_cons]
    by_cases hc : c = 47
    · subst hc; rfl
    · have h1 : (47 == c) = false := by rw [beq_eq_false_iff_ne]; exact fun e => hc e.symm
      have h2 : (c == 47) = false := by rw [beq_eq_false_iff_ne]; exact hc
      rw [h1, h2]; rfl

theorem good_two {p : List UInt8} (h : Pl.goodB p = true) : 2 ≤ p.length := by
  obtain ⟨e, hn, _⟩ := Pl.good_parts h
  have h1 := Pl.namesB_len hn
  rw [e]
  match hl : Pl.parts p, h1 with
  | n :: t, _ =>
    rw [hl] at hn
    unfold Pl.namesB Pl.nameB at hn
    simp only [Bool.and_eq_true, decide_eq_true_eq, List.all_cons] at hn
    have := hn.2.1.1.1.1.1
    simp only [Pl.of, List.length_cons, List.length_append]
    omega

set_option maxHeartbeats 1000000 in
theorem refParts_any (p : ByteArray) (w : World) (hp : p.size ≤ maxLen) :
    Calls Tryd.prog 20 #[.string p] w (PartsPost p w) := by
  unfold maxLen at hp
  by_cases h1 : (p.size : Int) < 2
  · have HG : Hid (Pl.goodB p.data.toList = false) := by
      show Pl.goodB p.data.toList = false
      cases hg : Pl.goodB p.data.toList with
      | false => rfl
      | true => have := good_two hg; rw [sz_list] at this; omega
    go_enter Tryd.func20, Tryd.ntmps20
    go_wp2
    go_ret
    exact Or.inr ⟨HG.out, rfl, Below.refl _ _⟩
  by_cases h2 : 200 < (p.size : Int)
  · have HG : Hid (Pl.goodB p.data.toList = false) := Pl.good_long (by rw [sz_list]; omega)
    go_enter Tryd.func20, Tryd.ntmps20
    go_wp2
    go_ret
    exact Or.inr ⟨HG.out, rfl, Below.refl _ _⟩
  have h0 : 0 < p.size := by omega
  have h0' : (0 : Int) < p.size := by omega
  cases h3 : (p[0].toNat : Int) != 47 with
  | true =>
    have HG : Hid (Pl.goodB p.data.toList = false) := Pl.good_head (by
      rw [head_eq p h0, beq_eq_false_iff_ne]
      intro e; rw [e] at h3; cases h3)
    go_enter Tryd.func20, Tryd.ntmps20
    go_wp2
    go_ret
    exact Or.inr ⟨HG.out, rfl, Below.refl _ _⟩
  | false =>
  have hpre : Lib.hasPrefix p.data.toList [47] = true := by
    rw [head_eq p h0, beq_iff_eq]
    exact UInt8.toNat_inj.1 (by rw [bne_eq_false_iff_eq] at h3; simp; omega)
  have HGE : Hid (Pl.goodB p.data.toList = Pl.namesB (Pl.spl (p.data.toList.drop 1))) := Pl.good_rest (by rw [sz_list]; omega) hpre
  have hex : (p.extract 1 p.size).data.toList = p.data.toList.drop 1 := by rw [Lib.extract_to_end]
  have HE : Hid ((p.extract 1 p.size).data.toList = p.data.toList.drop 1) := hex
  have HZ : Hid ((p.extract 1 p.size).size ≤ 1000) := by
    show (p.extract 1 p.size).size ≤ 1000
    rw [← sz_list, hex, List.length_drop, sz_list]; omega
  clear hpre hex
  go_enter Tryd.func20, Tryd.ntmps20
  go_wp2_with fail
  refine (cut_any _ _ HZ.out).mono ?_
  rintro e w1 ⟨v, xs, rfl, hown, hxs, hb⟩
  rw [HE.out] at hxs
  have hlen := congrArg List.length hxs
  rw [List.length_map, Pl.spl_length] at hlen
  have hcl := List.count_le_length (a := (47 : UInt8)) (l := p.data.toList.drop 1)
  rw [List.length_drop, sz_list] at hcl
  obtain ⟨g, cap, rfl, hBg, hgs, hnc⟩ := own_form hown (by omega)
  obtain ⟨n, hn⟩ : ∃ n, n = xs.length := ⟨_, rfl⟩
  have HC : Hid (∀ (j : Nat) x, xs[j]? = some x → w1.cell? ⟨g, 0 + j, none⟩ = some (.string x)) := by
    intro j x hx
    rw [Nat.zero_add, hown.cellAt j (by have := (List.getElem?_eq_some_iff.1 hx).1; omega)]
    simp [hx]
  have HR : Hid (Row w w1 g xs) := ⟨HC.out, hBg, hgs, hb⟩
  have HX : Hid (xs.map (·.data.toList) = Pl.spl (p.data.toList.drop 1)) := hxs
  have HSZ : Hid (∀ x ∈ xs, x.size ≤ maxLen) := by
    intro x hx
    have h4 : x.data.toList ∈ Pl.spl (p.data.toList.drop 1) := by rw [← hxs]; exact List.mem_map_of_mem hx
    have h5 := Pl.spl_short _ _ h4
    rw [List.length_drop, sz_list, sz_list] at h5
    unfold maxLen; show x.size ≤ 2 ^ 63 - 1; omega
  have HN : Hid (n = xs.length) := hn
  have hn1 : 1 ≤ n := by omega
  have hn200 : n ≤ 1000 := by omega
  have HNC : Hid (xs.length ≤ cap) := hnc
  rw [← hn] at hnc ⊢
  clear hown hxs hlen hcl hb hn hgs
  by_cases h8 : 8 < (n : Int)
  · have HG : Hid (Pl.goodB p.data.toList = false) := by
      show Pl.goodB p.data.toList = false
      rw [HGE.out, ← HX.out, Pl.namesB_many (by rw [List.length_map, ← HN.out]; omega)]
    go_wp2
    go_ret
    exact Or.inr ⟨HG.out, rfl, HR.out.below⟩
  have HF : Hid (Pl.goodB p.data.toList = (xs.map (·.data.toList)).all Pl.nameB) := by
    show Pl.goodB p.data.toList = _
    rw [HGE.out, ← HX.out, Pl.namesB_rest (by rw [List.length_map, ← HN.out]; omega) (by rw [List.length_map, ← HN.out]; omega)]
  go_wp2_with fail
  go_loop [4] (fun i => ∃ k : Nat, k ≤ n ∧ i = .int .i64 k ∧ ((xs.map (·.data.toList)).take k).all Pl.nameB = true) (fun i => n - (intOf i).toNat)
  case atStart => exact ⟨0, Nat.zero_le _, rfl, rfl⟩
  case round =>
    obtain ⟨k, hk, rfl, hall⟩ := hrel
    have HA : Hid (((xs.map (·.data.toList)).take k).all Pl.nameB = true) := hall
    clear hall
    by_cases hlt : k < n
    · obtain ⟨x, hx⟩ : ∃ x, xs[k]? = some x := ⟨xs[k]'(by rw [← HN.out]; exact hlt), List.getElem?_eq_getElem _⟩
      have hcell := HC.out k x hx
      rw [Nat.zero_add] at hcell
      have HXS : Hid (x.size ≤ maxLen) := HSZ.out x (List.mem_of_getElem? hx)
      have HS : Hid ((xs.map (·.data.toList)).take (k + 1) = (xs.map (·.data.toList)).take k ++ [x.data.toList]) := names_take xs k x hx
      have HM : Hid (x.data.toList ∈ xs.map (·.data.toList)) := List.mem_map_of_mem (List.mem_of_getElem? hx)
      clear hx
      have hlt' : (k : Int) < n := by omega
      cases hb : Pl.nameB x.data.toList with
      | false =>
        have HB : Hid (Pl.nameB x.data.toList = false) := hb
        clear hb
        go_wp2_with (go_at_call 37; refine (isName_any x _ HXS.out).mono ?_; rintro e w' ⟨rfl, hw⟩; rw [hw, HB.out]; clear hw w')
        go_ret
        exact Or.inr ⟨by rw [HF.out]; exact Pl.names_no HM.out HB.out, rfl, HR.out.below⟩
      | true =>
        have HB : Hid (Pl.nameB x.data.toList = true) := hb
        clear hb
        go_wp2_with (go_at_call 37; refine (isName_any x _ HXS.out).mono ?_; rintro e w' ⟨rfl, hw⟩; rw [hw, HB.out]; clear hw w')
        go_round
        case rel => exact ⟨k + 1, by omega, by go_num, by rw [HS.out, List.all_append, HA.out]; simp [HB.out]⟩
        case measure => simp [intOf]; omega
    · have HG : Hid (Pl.goodB p.data.toList = true) := by
        show Pl.goodB p.data.toList = true
        have := HA.out
        rw [List.take_of_length_le (by rw [List.length_map, ← HN.out]; omega)] at this
        rw [HF.out]; exact this
      go_wp2
      go_ret
      exact Or.inl ⟨HG.out, g, cap, xs, ret_slice HN.out, HNC.out, by rw [HX.out]; unfold Pl.parts; rw [HG.out]; rfl, HR.out⟩

set_option maxHeartbeats 400000 in
theorem refGood_any (p : ByteArray) (w : World) (hp : p.size ≤ maxLen) :
    Calls Tryd.prog 18 #[.string p] w fun e w' => e = .returned (.bool (Pl.goodB p.data.toList)) ∧ Below w.heap.size w w' := by
  have HP : Hid (p.size ≤ maxLen) := hp
  clear hp
  go_enter Tryd.func18, Tryd.ntmps18
  go_wp2_with fail
  refine (refParts_any p _ HP.out).mono ?_
  rintro e w1 (⟨hg, g, cap, xs, rfl, _, hxs, hrow⟩ | ⟨hg, rfl, hb⟩)
  · have hn := parts_len hg
    rw [← hxs, List.length_map] at hn
    obtain ⟨n, en⟩ : ∃ n, n = xs.length := ⟨_, rfl⟩
    rw [← en] at hn ⊢
    obtain ⟨h1, h8⟩ := hn
    have h0 : (0 : Int) < n := by omega
    have HG : Hid (Pl.goodB p.data.toList = true) := hg
    have HB : Hid (Below w.heap.size w w1) := hrow.below
    clear hg hxs hrow en
    go_wp2
    go_ret
    exact ⟨ret_bool (by rw [HG.out]; exact decide_eq_true (show 0 < n by omega)), HB.out⟩
  · have HG : Hid (Pl.goodB p.data.toList = false) := hg
    have HB : Hid (Below w.heap.size w w1) := hb
    clear hg hb
    go_wp2
    go_ret
    exact ⟨ret_bool HG.out.symm, HB.out⟩
end Go.Proofs.YtmmbomlpkjgclaaDoor
