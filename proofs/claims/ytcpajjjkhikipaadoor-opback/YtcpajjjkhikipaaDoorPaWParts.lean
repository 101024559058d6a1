/- What path.Parts and path.Good answer. -/
import Derived.Test.YtcpajjjkhikipaaDoorPaStd
namespace Go.Proofs.YtcpajjjkhikipaaDoor.Pa
open Go.RowKit

theorem goodNames_any (xs : List ByteArray) (b c : Nat) (w : World) (hN : xs.length ≤ 140737488355328) (hcells : ∀ (j : Nat) x, xs[j]? = some x → w.cell? ⟨b, 0 + j, none⟩ = some (.string x)) (hsz : ∀ x ∈ xs, x.size ≤ maxLen) :
    Calls Tryd.prog 45 #[.slice (some ⟨b, 0, none⟩) xs.length c] w fun e w' => e = .returned (.bool (Pl.namesB (xs.map (·.data.toList)))) ∧ w' = w := by
  by_cases h0 : xs.length = 0
  · have : xs = [] := List.length_eq_zero_iff.1 h0
    subst this
    exact goodNames_none _ c w
  · by_cases h8 : 8 < xs.length
    · rw [Pl.namesB_many (by simpa using h8)]
      exact goodNames_many _ _ c w h8 hN
    · exact goodNames_some xs b 0 c w (by omega) (by omega) hcells hsz

theorem sz_list (s : ByteArray) : s.data.toList.length = s.size := (Lib.size_eq s).symm

set_option maxRecDepth 20000 in
set_option maxHeartbeats 400000 in
theorem parts_bad (p : ByteArray) (w : World) (hS : Std w) (hp : p.size ≤ maxLen) (hg : Pl.goodB p.data.toList = false) :
    Calls Tryd.prog 39 #[.string p] w fun e w' => e = .returned (.slice none 0 0) ∧ Below w.heap.size w w' := by
  unfold maxLen at hp
  have HG : Hid (Pl.goodB p.data.toList = false) := hg
  clear hg
  by_cases h1 : 200 < (p.size : Int)
  · clear hS
    go_enter Tryd.func39, Tryd.ntmps39
    go_wp2
    go_ret
    exact ⟨rfl, Below.refl _ _⟩
  cases h2 : Lib.hasPrefix p.data.toList [47] with
  | false =>
    have H2 : Hid (Lib.hasPrefix p.data.toList [47] = false) := h2
    clear hS h2
    go_enter Tryd.func39, Tryd.ntmps39
    go_wp2_with (go_at_call 43; refine (Tryd.strings_HasPrefix p ⟨#[47]⟩ _).mono ?_; rintro e w' ⟨rfl, hw⟩; rw [hw, H2.out]; clear hw w')
    go_ret
    exact ⟨rfl, Below.refl _ _⟩
  | true =>
    have H2 : Hid (Lib.hasPrefix p.data.toList [47] = true) := h2
    have hlo : 1 ≤ p.size := by rw [← sz_list]; exact Pl.prefix_pos h2
    have hex : (p.extract 1 p.size).data.toList = p.data.toList.drop 1 := by rw [Lib.extract_to_end]
    have HE : Hid ((p.extract 1 p.size).data.toList = p.data.toList.drop 1) := hex
    have HB : Hid (Pl.namesB (Pl.spl (p.data.toList.drop 1)) = false) := by
      have := HG.out
      rw [Pl.good_rest (by rw [sz_list]; omega) h2] at this
      exact this
    have HZ : Hid ((p.extract 1 p.size).size < 4294967281 ∧ ∀ x ∈ Pl.spl (p.data.toList.drop 1), x.length ≤ maxLen) := by
      refine ⟨?_, ?_⟩
      · rw [← sz_list, hex, List.length_drop, sz_list]; omega
      · intro x hx
        have := Pl.spl_short _ x hx
        rw [List.length_drop, sz_list] at this
        unfold maxLen; omega
    have HS : Hid (Std w) := hS
    clear h2 hex hS
    go_enter Tryd.func39, Tryd.ntmps39
    go_wp2_with (first
      | (go_at_call 43; refine (Tryd.strings_HasPrefix p ⟨#[47]⟩ _).mono ?_; rintro e w' ⟨rfl, hw⟩; rw [hw, H2.out]; clear hw w'))
    refine (split_any _ _ HS.out HZ.out.1).mono ?_
    rintro e w1 ⟨xs, rfl, hxs, hrow⟩
    rw [HE.out] at hxs
    have HX : Hid (xs.map (·.data.toList) = Pl.spl (p.data.toList.drop 1)) := hxs
    have hsz : ∀ x ∈ xs, x.size ≤ maxLen := fun x hx => by
      rw [← sz_list]; exact HZ.out.2 _ (by rw [← hxs]; exact List.mem_map_of_mem hx)
    have hN : xs.length ≤ 140737488355328 := by
      have := congrArg List.length hxs
      rw [List.length_map, Pl.spl_length] at this
      have hc := List.count_le_length (a := (47 : UInt8)) (l := p.data.toList.drop 1)
      rw [List.length_drop, sz_list] at hc
      omega
    have HR : Hid (Row w w1 w.heap.size xs) := hrow
    have HN : Hid (∀ x ∈ xs, x.size ≤ maxLen) := hsz
    clear hxs hrow hsz
    go_wp2_with (go_at_call 45; refine (goodNames_any xs _ _ _ hN HR.out.cells HN.out).mono ?_; rintro e w' ⟨rfl, hw⟩; rw [hw, HX.out, HB.out]; clear hw w')
    go_ret
    exact ⟨rfl, HR.out.below⟩

set_option maxRecDepth 20000 in
set_option maxHeartbeats 400000 in
theorem parts_good (p : ByteArray) (w : World) (hS : Std w) (hg : Pl.goodB p.data.toList = true) :
    Calls Tryd.prog 39 #[.string p] w fun e w' => ∃ xs : List ByteArray, e = .returned (.slice (some ⟨w.heap.size, 0, none⟩) xs.length xs.length) ∧ xs.map (·.data.toList) = Pl.parts p.data.toList ∧ Row w w' w.heap.size xs := by
  have hl := (Pl.good_parts hg).2.2
  rw [sz_list] at hl
  have hl' : ¬ 200 < (p.size : Int) := by omega
  have h2 : Lib.hasPrefix p.data.toList [47] = true := by
    cases h : Lib.hasPrefix p.data.toList [47] with
    | false => rw [Pl.good_head h] at hg; cases hg
    | true => rfl
  have hparts : Pl.parts p.data.toList = Pl.spl (p.data.toList.drop 1) := by unfold Pl.parts; rw [hg]; rfl
  have HP : Hid (Pl.parts p.data.toList = Pl.spl (p.data.toList.drop 1)) := hparts
  have H2 : Hid (Lib.hasPrefix p.data.toList [47] = true) := h2
  have hlo : 1 ≤ p.size := by rw [← sz_list]; exact Pl.prefix_pos h2
  have hex : (p.extract 1 p.size).data.toList = p.data.toList.drop 1 := by rw [Lib.extract_to_end]
  have HE : Hid ((p.extract 1 p.size).data.toList = p.data.toList.drop 1) := hex
  have HB : Hid (Pl.namesB (Pl.spl (p.data.toList.drop 1)) = true) := by
    have := hg
    rw [Pl.good_rest (by rw [sz_list]; omega) h2] at this
    exact this
  have HZ : Hid ((p.extract 1 p.size).size < 4294967281 ∧ ∀ x ∈ Pl.spl (p.data.toList.drop 1), x.length ≤ maxLen) := by
    refine ⟨?_, ?_⟩
    · rw [← sz_list, hex, List.length_drop, sz_list]; omega
    · intro x hx
      have := Pl.spl_short _ x hx
      rw [List.length_drop, sz_list] at this
      unfold maxLen; omega
  have HS : Hid (Std w) := hS
  obtain ⟨ps, hps⟩ : ∃ ps, ps = Pl.parts p.data.toList := ⟨_, rfl⟩
  rw [← hps]
  have HPS : Hid (ps = Pl.parts p.data.toList) := hps
  clear h2 hex hS hg hparts hps
  go_enter Tryd.func39, Tryd.ntmps39
  go_wp2_with (go_at_call 43; refine (Tryd.strings_HasPrefix p ⟨#[47]⟩ _).mono ?_; rintro e w' ⟨rfl, hw⟩; rw [hw, H2.out]; clear hw w')
  refine (split_any _ _ HS.out HZ.out.1).mono ?_
  rintro e w1 ⟨xs, rfl, hxs, hrow⟩
  rw [HE.out] at hxs
  have HX : Hid (xs.map (·.data.toList) = Pl.spl (p.data.toList.drop 1)) := hxs
  have hsz : ∀ x ∈ xs, x.size ≤ maxLen := fun x hx => by
    rw [← sz_list]; exact HZ.out.2 _ (by rw [← hxs]; exact List.mem_map_of_mem hx)
  have hN : xs.length ≤ 140737488355328 := by
    have := congrArg List.length hxs
    rw [List.length_map, Pl.spl_length] at this
    have hc := List.count_le_length (a := (47 : UInt8)) (l := p.data.toList.drop 1)
    rw [List.length_drop, sz_list] at hc
    omega
  have HR : Hid (Row w w1 w.heap.size xs) := hrow
  have HN : Hid (∀ x ∈ xs, x.size ≤ maxLen) := hsz
  clear hxs hrow hsz
  go_wp2_with (go_at_call 45; refine (goodNames_any xs _ _ _ hN HR.out.cells HN.out).mono ?_; rintro e w' ⟨rfl, hw⟩; rw [hw, HX.out, HB.out]; clear hw w')
  go_ret
  exact ⟨xs, rfl, by rw [HX.out, HPS.out, HP.out], HR.out⟩

theorem parts_len {p : List UInt8} (h : Pl.goodB p = true) : 1 ≤ (Pl.parts p).length ∧ (Pl.parts p).length ≤ 8 := Pl.namesB_len (Pl.good_parts h).2.1

set_option maxRecDepth 20000 in
set_option maxHeartbeats 400000 in
theorem good_any (p : ByteArray) (w : World) (hS : Std w) (hp : p.size ≤ maxLen) :
    Calls Tryd.prog 36 #[.string p] w fun e w' => e = .returned (.bool (Pl.goodB p.data.toList)) ∧ Below w.heap.size w w' := by
  have HS : Hid (Std w) := hS
  have HP : Hid (p.size ≤ maxLen) := hp
  clear hS hp
  cases hg : Pl.goodB p.data.toList with
  | false =>
    have HG : Hid (Pl.goodB p.data.toList = false) := hg
    clear hg
    go_enter Tryd.func36, Tryd.ntmps36
    go_wp2_with fail
    refine (parts_bad p _ HS.out HP.out HG.out).mono ?_
    rintro e w1 ⟨rfl, hb⟩
    go_wp2
    go_ret
    exact ⟨rfl, hb⟩
  | true =>
    have HG : Hid (Pl.goodB p.data.toList = true) := hg
    clear hg
    go_enter Tryd.func36, Tryd.ntmps36
    go_wp2_with fail
    refine (parts_good p _ HS.out HG.out).mono ?_
    rintro e w1 ⟨xs, rfl, hxs, hrow⟩
    have hn : 1 ≤ xs.length ∧ xs.length ≤ 8 := by
      have := parts_len HG.out
      rw [← hxs, List.length_map] at this
      exact this
    obtain ⟨h1, h8⟩ := hn
    have h0 : (0 : Int) < xs.length := by omega
    have HR : Hid (Row w w1 w.heap.size xs) := hrow
    clear hxs hrow
    go_wp2
    go_ret
    exact ⟨ret_bool (decide_eq_true (show 0 < xs.length by omega)), HR.out.below⟩

end Go.Proofs.YtcpajjjkhikipaaDoor.Pa
