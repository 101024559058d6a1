/- What path.goodName answers: a walk over its body. What path.goodNames answers: a walk over its body. What every world of these walks holds: the library's variables that the road reads; and the library's contracts in the forms that the walks take. What path.Parts and path.Good answer. What path.Name, path.Top, path.Parent and path.Within answer. What path.Number and path.Join answer. -/
import Derived.Test.YtjimemnkmpapgaaGreatDoorBase
import Derived.Test.YtjimemnkmpapgaaGreatDoorLibP
import Derived.WalkKit
import Derived.WalkSpells
import Derived.WalkLawsBesides
import Derived.Test.YtjimemnkmpapgaaGreatDoorShelf
import Derived.WalkSmall
namespace Go.Proofs.YtjimemnkmpapgaaGreatDoor.Pa
open Go.RowKit

theorem take_snoc (s : ByteArray) (k : Nat) (h : k < s.size) : s.data.toList.take (k + 1) = s.data.toList.take k ++ [s[k]] := by
  rw [List.take_succ_eq_append_getElem (by simpa using h)]; rfl

set_option maxRecDepth 20000 in
set_option maxHeartbeats 400000 in
theorem goodName_any (s : ByteArray) (w : World) (hs : s.size ≤ maxLen) :
    Calls Tryz.prog 107 #[.string s] w fun e w' => e = .returned (.bool (Pl.nameB s.data.toList)) ∧ w' = w := by
  unfold maxLen at hs
  cases h1 : s.toList.isEmpty with
  | true =>
    have hf : Pl.nameB s.data.toList = false := Pl.nameB_none (by rw [← Lib.toList_data]; simpa using h1)
    rw [hf]; clear hf
    go_enter Tryz.func107, Tryz.ntmps107
    go_wp2
    go_ret
    exact ⟨rfl, rfl⟩
  | false =>
  by_cases h2 : 40 < (s.size : Int)
  · have hf : Pl.nameB s.data.toList = false := Pl.nameB_long (by rw [← Lib.size_eq]; omega)
    rw [hf]; clear hf
    go_enter Tryz.func107, Tryz.ntmps107
    go_wp2
    go_ret
    exact ⟨rfl, rfl⟩
  cases h3 : s.toList == [46] with
  | true =>
    have hf : Pl.nameB s.data.toList = false := Pl.nameB_dot (by rw [← Lib.toList_data]; simpa using h3)
    rw [hf]; clear hf
    go_enter Tryz.func107, Tryz.ntmps107
    go_wp2
    go_ret
    exact ⟨rfl, rfl⟩
  | false =>
  cases h4 : s.toList == [46, 46] with
  | true =>
    have hf : Pl.nameB s.data.toList = false := Pl.nameB_dots (by rw [← Lib.toList_data]; simpa using h4)
    rw [hf]; clear hf
    go_enter Tryz.func107, Tryz.ntmps107
    go_wp2
    go_ret
    exact ⟨rfl, rfl⟩
  | false =>
  have hf : Pl.nameB s.data.toList = s.data.toList.all Pl.byteB := Pl.nameB_rest (by rw [← Lib.toList_data]; intro e; rw [e] at h1; simp at h1) (by rw [← Lib.size_eq]; omega) (by rw [← Lib.toList_data]; simpa using h3) (by rw [← Lib.toList_data]; simpa using h4)
  rw [hf]; clear hf
  have h2' : ¬ 40 < (s.size : Int) := h2
  obtain ⟨r, hr⟩ : ∃ r, r = s.data.toList.all Pl.byteB := ⟨_, rfl⟩
  rw [← hr]
  have HR : Hid (r = s.data.toList.all Pl.byteB) := hr
  clear hr
  go_enter Tryz.func107, Tryz.ntmps107
  go_wp2
  go_loop [21] (fun i => ∃ k : Nat, k ≤ s.size ∧ i = .int .i64 k ∧ (s.data.toList.take k).all Pl.byteB = true) (fun i => s.size - (intOf i).toNat)
  case atStart => exact ⟨0, Nat.zero_le _, rfl, rfl⟩
  case round =>
    obtain ⟨k, hk, rfl, hall⟩ := hrel
    have HA : Hid ((s.data.toList.take k).all Pl.byteB = true) := hall
    clear hall
    by_cases hlt : k < s.size
    · have hts := take_snoc s k hlt
      have HS : Hid (s.data.toList.take (k + 1) = s.data.toList.take k ++ [s[k]]) := hts
      have HM : Hid (s[k] ∈ s.data.toList) := List.mem_of_mem_take (i := k + 1) (by rw [hts]; simp)
      clear hts
      have hlt' : (k : Int) < s.size := by omega
      by_cases b1 : (s[k].toNat : Int) < 33
      · go_wp2
        go_ret
        exact ⟨ret_bool (by rw [HR.out]; exact (Pl.all_no HM.out (Pl.byteB_low b1)).symm), rfl⟩
      by_cases b2 : (126 : Int) < s[k].toNat
      · go_wp2
        go_ret
        exact ⟨ret_bool (by rw [HR.out]; exact (Pl.all_no HM.out (Pl.byteB_high b2)).symm), rfl⟩
      cases b3 : (s[k].toNat : Int) == 47 with
      | true =>
        go_wp2
        go_ret
        exact ⟨ret_bool (by rw [HR.out]; exact (Pl.all_no HM.out (Pl.byteB_slash b3)).symm), rfl⟩
      | false =>
        go_wp2
        go_round
        case rel => exact ⟨k + 1, by omega, by go_num, by rw [HS.out, List.all_append, HA.out]; simp [Pl.byteB_yes (by omega) (by omega) b3]⟩
        case measure => simp [intOf]; omega
    · go_wp2
      go_ret
      exact ⟨ret_bool (by have := HA.out; rw [List.take_of_length_le (by simp; omega)] at this; rw [HR.out]; exact this.symm), rfl⟩

end Go.Proofs.YtjimemnkmpapgaaGreatDoor.Pa
namespace Go.Proofs.YtjimemnkmpapgaaGreatDoor.Pa
open Go.RowKit

theorem names_take (xs : List ByteArray) (k : Nat) (x : ByteArray) (h : xs[k]? = some x) : (xs.map (·.data.toList)).take (k + 1) = (xs.map (·.data.toList)).take k ++ [x.data.toList] := by
  rw [List.take_add_one]; simp [h]

set_option maxRecDepth 20000 in
set_option maxHeartbeats 400000 in
theorem goodNames_none (a : Option Addr) (c : Nat) (w : World) :
    Calls Tryz.prog 85 #[.slice a 0 c] w fun e w' => e = .returned (.bool false) ∧ w' = w := by
  go_enter Tryz.func85, Tryz.ntmps85
  go_wp2
  go_ret
  exact ⟨rfl, rfl⟩

set_option maxRecDepth 20000 in
set_option maxHeartbeats 400000 in
theorem goodNames_many (a : Option Addr) (n c : Nat) (w : World) (hn : 8 < n) (hN : n ≤ 140737488355328) :
    Calls Tryz.prog 85 #[.slice a n c] w fun e w' => e = .returned (.bool false) ∧ w' = w := by
  have h0 : ((n : Int) == 0) = false := by rw [beq_eq_false_iff_ne]; omega
  have h8 : (8 : Int) < n := by omega
  go_enter Tryz.func85, Tryz.ntmps85
  go_wp2
  go_ret
  exact ⟨rfl, rfl⟩

set_option maxRecDepth 20000 in
set_option maxHeartbeats 400000 in
theorem goodNames_some (xs : List ByteArray) (b o c : Nat) (w : World) (h1 : 1 ≤ xs.length) (h8 : xs.length ≤ 8) (hcells : ∀ (j : Nat) x, xs[j]? = some x → w.cell? ⟨b, o + j, none⟩ = some (.string x)) (hsz : ∀ x ∈ xs, x.size ≤ maxLen) :
    Calls Tryz.prog 85 #[.slice (some ⟨b, o, none⟩) xs.length c] w fun e w' => e = .returned (.bool (Pl.namesB (xs.map (·.data.toList)))) ∧ w' = w := by
  have hf : Pl.namesB (xs.map (·.data.toList)) = (xs.map (·.data.toList)).all Pl.nameB := Pl.namesB_rest (by simpa using h1) (by simpa using h8)
  rw [hf]; clear hf
  obtain ⟨r, hr⟩ : ∃ r, r = (xs.map (·.data.toList)).all Pl.nameB := ⟨_, rfl⟩
  rw [← hr]
  have HR : Hid (r = (xs.map (·.data.toList)).all Pl.nameB) := hr
  have HC : Hid (∀ (j : Nat) x, xs[j]? = some x → w.cell? ⟨b, o + j, none⟩ = some (.string x)) := hcells
  clear hr hcells
  obtain ⟨n, hn⟩ : ∃ n, n = xs.length := ⟨_, rfl⟩
  have HN : Hid (n = xs.length) := hn
  rw [← hn] at h1 h8 ⊢
  clear hn
  have h0 : ((n : Int) == 0) = false := by rw [beq_eq_false_iff_ne]; omega
  have h8' : ¬ (8 : Int) < n := by omega
  go_enter Tryz.func85, Tryz.ntmps85
  go_wp2
  go_loop [15] (fun i => ∃ k : Nat, k ≤ n ∧ i = .int .i64 k ∧ ((xs.map (·.data.toList)).take k).all Pl.nameB = true) (fun i => n - (intOf i).toNat)
  case atStart => exact ⟨0, Nat.zero_le _, rfl, rfl⟩
  case round =>
    obtain ⟨k, hk, rfl, hall⟩ := hrel
    have HA : Hid (((xs.map (·.data.toList)).take k).all Pl.nameB = true) := hall
    clear hall
    by_cases hlt : k < n
    · obtain ⟨x, hx⟩ : ∃ x, xs[k]? = some x := ⟨xs[k]'(by rw [← HN.out]; exact hlt), List.getElem?_eq_getElem _⟩
      have hcell := HC.out k x hx
      have hxs : x.size ≤ maxLen := hsz x (List.mem_of_getElem? hx)
      have HS : Hid ((xs.map (·.data.toList)).take (k + 1) = (xs.map (·.data.toList)).take k ++ [x.data.toList]) := names_take xs k x hx
      have HM : Hid (x.data.toList ∈ xs.map (·.data.toList)) := List.mem_map_of_mem (List.mem_of_getElem? hx)
      have HX : Hid (x.size ≤ maxLen) := hxs
      clear hx hxs hsz
      have hlt' : (k : Int) < n := by omega
      cases hb : Pl.nameB x.data.toList with
      | false =>
        have HB : Hid (Pl.nameB x.data.toList = false) := hb
        clear hb
        go_wp2_with (go_at_call 107; refine (goodName_any x _ HX.out).mono ?_; rintro e w' ⟨rfl, rfl⟩; rw [HB.out])
        go_ret
        exact ⟨ret_bool (by rw [HR.out]; exact (Pl.names_no HM.out HB.out).symm), rfl⟩
      | true =>
        have HB : Hid (Pl.nameB x.data.toList = true) := hb
        clear hb
        go_wp2_with (go_at_call 107; refine (goodName_any x _ HX.out).mono ?_; rintro e w' ⟨rfl, rfl⟩; rw [HB.out])
        go_round
        case rel => exact ⟨k + 1, by omega, by go_num, by rw [HS.out, List.all_append, HA.out]; simp [HB.out]⟩
        case measure => simp [intOf]; omega
    · go_wp2
      go_ret
      exact ⟨ret_bool (by have := HA.out; rw [List.take_of_length_le (by rw [List.length_map, ← HN.out]; omega)] at this; rw [HR.out]; exact this.symm), rfl⟩

end Go.Proofs.YtjimemnkmpapgaaGreatDoor.Pa
namespace Go.Proofs.YtjimemnkmpapgaaGreatDoor.Pa
open Go.RowKit

theorem gTab : Tryz.prog.globalNamed "internal/strconv.uint64pow10" = some 3 := by kernel_rfl

structure Std (w : World) : Prop where
  len : ∃ m, w.cell? ⟨0, 0, none⟩ = some (.int .i64 m)
  size : 6 ≤ w.heap.size
  tab : Lib.TabIs Tryz.prog w "internal/strconv.uint64pow10" .u64 Lib.pow10Tab

theorem Std.below {w w' : World} (h : Std w) (hb : Below w.heap.size w w') : Std w' := by
  obtain ⟨m, hm⟩ := h.len
  have hs := h.size
  have hs' := hb.size
  exact ⟨⟨m, by rw [hb.cell (p := ⟨0, 0, none⟩) (by simp only []; omega)]; exact hm⟩, by omega, var?_below hb gTab (by omega) h.tab⟩

/-- A new row of texts. -/
structure Row (w w' : World) (b : Nat) (xs : List ByteArray) : Prop where
  cells : ∀ (j : Nat) x, xs[j]? = some x → w'.cell? ⟨b, 0 + j, none⟩ = some (.string x)
  lo : w.heap.size ≤ b
  hi : b < w'.heap.size
  below : Below w.heap.size w w'

theorem splitB_spl (s : ByteArray) : (Lib.splitB ⟨#[47]⟩ 0 (Lib.countB s ⟨#[47]⟩) s).map (·.data.toList) = Pl.spl s.data.toList := by
  rw [Lib.splitB_data]; exact Pl.split_spl s.data.toList

theorem splitB_len (s : ByteArray) : (Lib.splitB ⟨#[47]⟩ 0 (Lib.countB s ⟨#[47]⟩) s).length = Lib.countB s ⟨#[47]⟩ + 1 := by
  have h := congrArg List.length (splitB_spl s)
  rw [List.length_map] at h
  rw [h]
  have e : Lib.countB s ⟨#[47]⟩ = Lib.countByte s.data.toList 47 := Lib.count_one ..
  rw [e, Lib.countByte, Pl.spl_length]

theorem split_any (s : ByteArray) (w : World) (hS : Std w) (hs : s.size < 4294967281) :
    Calls Tryz.prog 84 #[.string s, .string ⟨#[47]⟩] w fun e w' => ∃ xs : List ByteArray, e = .returned (.slice (some ⟨w.heap.size, 0, none⟩) xs.length xs.length) ∧ xs.map (·.data.toList) = Pl.spl s.data.toList ∧ Row w w' w.heap.size xs := by
  obtain ⟨m, hm⟩ := hS.len
  refine (Tryz.strings_Split s ⟨#[47]⟩ m w hs hm (by decide)).mono ?_
  rintro e w' ⟨rfl, rfl⟩
  refine ⟨Lib.splitB ⟨#[47]⟩ 0 (Lib.countB s ⟨#[47]⟩) s, by rw [splitB_len], splitB_spl s, ?_, Nat.le_refl _, by simp, (Below.refl _ _).alloc (Nat.le_refl _) _⟩
  intro j x hx
  rw [Nat.zero_add]
  simp [World.cell?_alloc_new, hx]

end Go.Proofs.YtjimemnkmpapgaaGreatDoor.Pa
namespace Go.Proofs.YtjimemnkmpapgaaGreatDoor.Pa
open Go.RowKit

theorem goodNames_any (xs : List ByteArray) (b c : Nat) (w : World) (hN : xs.length ≤ 140737488355328) (hcells : ∀ (j : Nat) x, xs[j]? = some x → w.cell? ⟨b, 0 + j, none⟩ = some (.string x)) (hsz : ∀ x ∈ xs, x.size ≤ maxLen) :
    Calls Tryz.prog 85 #[.slice (some ⟨b, 0, none⟩) xs.length c] w fun e w' => e = .returned (.bool (Pl.namesB (xs.map (·.data.toList)))) ∧ w' = w := by
  by_cases h0 : xs.length = 0
  · have : xs = [] := List.length_eq_zero_iff.1 h0
    subst this
    exact goodNames_none _ c w
  · by_cases h8 : 8 < xs.length
    · rw [Pl.namesB_many (by simpa using h8)]
      exact goodNames_many _ _ c w h8 hN
    · exact goodNames_some xs b 0 c w (by omega) (by omega) hcells hsz

theorem sz_list (s : ByteArray) : s.data.toList.length = s.size := (Lib.size_eq s).symm

set_option maxRecDepth 20000 in
set_option maxHeartbeats 400000 in
theorem parts_bad (p : ByteArray) (w : World) (hS : Std w) (hp : p.size ≤ maxLen) (hg : Pl.goodB p.data.toList = false) :
    Calls Tryz.prog 64 #[.string p] w fun e w' => e = .returned (.slice none 0 0) ∧ Below w.heap.size w w' := by
  unfold maxLen at hp
  have HG : Hid (Pl.goodB p.data.toList = false) := hg
  clear hg
  by_cases h1 : 200 < (p.size : Int)
  · clear hS
    go_enter Tryz.func64, Tryz.ntmps64
    go_wp2
    go_ret
    exact ⟨rfl, Below.refl _ _⟩
  cases h2 : Lib.hasPrefix p.data.toList [47] with
  | false =>
    have H2 : Hid (Lib.hasPrefix p.data.toList [47] = false) := h2
    clear hS h2
    go_enter Tryz.func64, Tryz.ntmps64
    go_wp2_with (go_at_call 83; refine (Tryz.strings_HasPrefix p ⟨#[47]⟩ _).mono ?_; rintro e w' ⟨rfl, hw⟩; rw [hw, H2.out]; clear hw w')
    go_ret
    exact ⟨rfl, Below.refl _ _⟩
  | true =>
    have H2 : Hid (Lib.hasPrefix p.data.toList [47] = true) := h2
    have hlo : 1 ≤ p.size := by rw [← sz_list]; exact Pl.prefix_pos h2
    have hex : (p.extract 1 p.size).data.toList = p.data.toList.drop 1 := by rw [Lib.extract_to_end]
    have HE : Hid ((p.extract 1 p.size).data.toList = p.data.toList.drop 1) := hex
    have HB : Hid (Pl.namesB (Pl.spl (p.data.toList.drop 1)) = false) := by
      have := HG.out
      rw [Pl.good_rest (by rw [sz_list]; omega) h2] at this
      exact this
    have HZ : Hid ((p.extract 1 p.size).size < 4294967281 ∧ ∀ x ∈ Pl.spl (p.data.toList.drop 1), x.length ≤ maxLen) := by
      refine ⟨?_, ?_⟩
      · rw [← sz_list, hex, List.length_drop, sz_list]; omega
      · intro x hx
        have := Pl.spl_short _ x hx
        rw [List.length_drop, sz_list] at this
        unfold maxLen; omega
    have HS : Hid (Std w) := hS
    clear h2 hex hS
    go_enter Tryz.func64, Tryz.ntmps64
    go_wp2_with (first
      | (go_at_call 83; refine (Tryz.strings_HasPrefix p ⟨#[47]⟩ _).mono ?_; rintro e w' ⟨rfl, hw⟩; rw [hw, H2.out]; clear hw w'))
    refine (split_any _ _ HS.out HZ.out.1).mono ?_
    rintro e w1 ⟨xs, rfl, hxs, hrow⟩
    rw [HE.out] at hxs
    have HX : Hid (xs.map (·.data.toList) = Pl.spl (p.data.toList.drop 1)) := hxs
    have hsz : ∀ x ∈ xs, x.size ≤ maxLen := fun x hx => by
      rw [← sz_list]; exact HZ.out.2 _ (by rw [← hxs]; exact List.mem_map_of_mem hx)
    have hN : xs.length ≤ 140737488355328 := by
      have := congrArg List.length hxs
      rw [List.length_map, Pl.spl_length] at this
      have hc := List.count_le_length (a := (47 : UInt8)) (l := p.data.toList.drop 1)
      rw [List.length_drop, sz_list] at hc
      omega
    have HR : Hid (Row w w1 w.heap.size xs) := hrow
    have HN : Hid (∀ x ∈ xs, x.size ≤ maxLen) := hsz
    clear hxs hrow hsz
    go_wp2_with (go_at_call 85; refine (goodNames_any xs _ _ _ hN HR.out.cells HN.out).mono ?_; rintro e w' ⟨rfl, hw⟩; rw [hw, HX.out, HB.out]; clear hw w')
    go_ret
    exact ⟨rfl, HR.out.below⟩

set_option maxRecDepth 20000 in
set_option maxHeartbeats 400000 in
theorem parts_good (p : ByteArray) (w : World) (hS : Std w) (hg : Pl.goodB p.data.toList = true) :
    Calls Tryz.prog 64 #[.string p] w fun e w' => ∃ xs : List ByteArray, e = .returned (.slice (some ⟨w.heap.size, 0, none⟩) xs.length xs.length) ∧ xs.map (·.data.toList) = Pl.parts p.data.toList ∧ Row w w' w.heap.size xs := by
  have hl := (Pl.good_parts hg).2.2
  rw [sz_list] at hl
  have hl' : ¬ 200 < (p.size : Int) := by omega
  have h2 : Lib.hasPrefix p.data.toList [47] = true := by
    cases h : Lib.hasPrefix p.data.toList [47] with
    | false => rw [Pl.good_head h] at hg; cases hg
    | true => rfl
  have hparts : Pl.parts p.data.toList = Pl.spl (p.data.toList.drop 1) := by unfold Pl.parts; rw [hg]; rfl
  have HP : Hid (Pl.parts p.data.toList = Pl.spl (p.data.toList.drop 1)) := hparts
  have H2 : Hid (Lib.hasPrefix p.data.toList [47] = true) := h2
  have hlo : 1 ≤ p.size := by rw [← sz_list]; exact Pl.prefix_pos h2
  have hex : (p.extract 1 p.size).data.toList = p.data.toList.drop 1 := by rw [Lib.extract_to_end]
  have HE : Hid ((p.extract 1 p.size).data.toList = p.data.toList.drop 1) := hex
  have HB : Hid (Pl.namesB (Pl.spl (p.data.toList.drop 1)) = true) := by
    have := hg
    rw [Pl.good_rest (by rw [sz_list]; omega) h2] at this
    exact this
  have HZ : Hid ((p.extract 1 p.size).size < 4294967281 ∧ ∀ x ∈ Pl.spl (p.data.toList.drop 1), x.length ≤ maxLen) := by
    refine ⟨?_, ?_⟩
    · rw [← sz_list, hex, List.length_drop, sz_list]; omega
    · intro x hx
      have := Pl.spl_short _ x hx
      rw [List.length_drop, sz_list] at this
      unfold maxLen; omega
  have HS : Hid (Std w) := hS
  obtain ⟨ps, hps⟩ : ∃ ps, ps = Pl.parts p.data.toList := ⟨_, rfl⟩
  rw [← hps]
  have HPS : Hid (ps = Pl.parts p.data.toList) := hps
  clear h2 hex hS hg hparts hps
  go_enter Tryz.func64, Tryz.ntmps64
  go_wp2_with (go_at_call 83; refine (Tryz.strings_HasPrefix p ⟨#[47]⟩ _).mono ?_; rintro e w' ⟨rfl, hw⟩; rw [hw, H2.out]; clear hw w')
  refine (split_any _ _ HS.out HZ.out.1).mono ?_
  rintro e w1 ⟨xs, rfl, hxs, hrow⟩
  rw [HE.out] at hxs
  have HX : Hid (xs.map (·.data.toList) = Pl.spl (p.data.toList.drop 1)) := hxs
  have hsz : ∀ x ∈ xs, x.size ≤ maxLen := fun x hx => by
    rw [← sz_list]; exact HZ.out.2 _ (by rw [← hxs]; exact List.mem_map_of_mem hx)
  have hN : xs.length ≤ 140737488355328 := by
    have := congrArg List.length hxs
    rw [List.length_map, Pl.spl_length] at this
    have hc := List.count_le_length (a := (47 : UInt8)) (l := p.data.toList.drop 1)
    rw [List.length_drop, sz_list] at hc
    omega
  have HR : Hid (Row w w1 w.heap.size xs) := hrow
  have HN : Hid (∀ x ∈ xs, x.size ≤ maxLen) := hsz
  clear hxs hrow hsz
  go_wp2_with (go_at_call 85; refine (goodNames_any xs _ _ _ hN HR.out.cells HN.out).mono ?_; rintro e w' ⟨rfl, hw⟩; rw [hw, HX.out, HB.out]; clear hw w')
  go_ret
  exact ⟨xs, rfl, by rw [HX.out, HPS.out, HP.out], HR.out⟩

theorem parts_len {p : List UInt8} (h : Pl.goodB p = true) : 1 ≤ (Pl.parts p).length ∧ (Pl.parts p).length ≤ 8 := Pl.namesB_len (Pl.good_parts h).2.1

set_option maxRecDepth 20000 in
set_option maxHeartbeats 400000 in
theorem good_any (p : ByteArray) (w : World) (hS : Std w) (hp : p.size ≤ maxLen) :
    Calls Tryz.prog 99 #[.string p] w fun e w' => e = .returned (.bool (Pl.goodB p.data.toList)) ∧ Below w.heap.size w w' := by
  have HS : Hid (Std w) := hS
  have HP : Hid (p.size ≤ maxLen) := hp
  clear hS hp
  cases hg : Pl.goodB p.data.toList with
  | false =>
    have HG : Hid (Pl.goodB p.data.toList = false) := hg
    clear hg
    go_enter Tryz.func99, Tryz.ntmps99
    go_wp2_with fail
    refine (parts_bad p _ HS.out HP.out HG.out).mono ?_
    rintro e w1 ⟨rfl, hb⟩
    go_wp2
    go_ret
    exact ⟨rfl, hb⟩
  | true =>
    have HG : Hid (Pl.goodB p.data.toList = true) := hg
    clear hg
    go_enter Tryz.func99, Tryz.ntmps99
    go_wp2_with fail
    refine (parts_good p _ HS.out HG.out).mono ?_
    rintro e w1 ⟨xs, rfl, hxs, hrow⟩
    have hn : 1 ≤ xs.length ∧ xs.length ≤ 8 := by
      have := parts_len HG.out
      rw [← hxs, List.length_map] at this
      exact this
    obtain ⟨h1, h8⟩ := hn
    have h0 : (0 : Int) < xs.length := by omega
    have HR : Hid (Row w w1 w.heap.size xs) := hrow
    clear hxs hrow
    go_wp2
    go_ret
    exact ⟨ret_bool (decide_eq_true (show 0 < xs.length by omega)), HR.out.below⟩

end Go.Proofs.YtjimemnkmpapgaaGreatDoor.Pa
namespace Go.Proofs.YtjimemnkmpapgaaGreatDoor.Pa
open Go.RowKit

theorem row_at {w w' : World} {b : Nat} {xs : List ByteArray} (h : Row w w' b xs) (k : Nat) (hk : k < xs.length) : w'.cell? ⟨b, k, none⟩ = some (.string xs[k]) := by
  have := h.cells k xs[k] (List.getElem?_eq_getElem hk)
  rwa [Nat.zero_add] at this

theorem last_at {xs : List ByteArray} {l : List (List UInt8)} {k : Nat} (h : xs.map (·.data.toList) = l) (hk : xs.length = k + 1) : (xs[k]'(by omega)).data.toList = l.getLast?.getD [] := by
  subst h
  have e : (xs.map (·.data.toList)).length - 1 = k := by rw [List.length_map]; omega
  rw [List.getLast?_eq_getElem?, e]
  simp [List.getElem?_eq_getElem (show k < xs.length by omega)]

theorem first_at {xs : List ByteArray} {l : List (List UInt8)} {k : Nat} (h : xs.map (·.data.toList) = l) (hk : xs.length = k + 1) : (xs[0]'(by omega)).data.toList = l.head?.getD [] := by
  subst h
  rw [List.head?_eq_getElem?]
  simp [List.getElem?_eq_getElem (show 0 < xs.length by omega)]



set_option maxRecDepth 20000 in
set_option maxHeartbeats 400000 in
theorem top_any (p : ByteArray) (w : World) (hS : Std w) (hg : Pl.goodB p.data.toList = true) :
    Calls Tryz.prog 45 #[.string p] w fun e w' => ∃ x : ByteArray, e = .returned (.string x) ∧ x.data.toList = Pl.top p.data.toList ∧ Below w.heap.size w w' := by
  have HS : Hid (Std w) := hS
  have HG : Hid (Pl.goodB p.data.toList = true) := hg
  obtain ⟨nm, hnm⟩ : ∃ nm, nm = Pl.top p.data.toList := ⟨_, rfl⟩
  rw [← hnm]
  have HM : Hid (nm = Pl.top p.data.toList) := hnm
  clear hS hg hnm
  go_enter Tryz.func45, Tryz.ntmps45
  go_wp2_with fail
  refine (parts_good p _ HS.out HG.out).mono ?_
  rintro e w1 ⟨xs, rfl, hxs, hrow⟩
  have hn : 1 ≤ xs.length ∧ xs.length ≤ 8 := by
    have := parts_len HG.out
    rw [← hxs, List.length_map] at this
    exact this
  obtain ⟨k, hk⟩ : ∃ k, xs.length = k + 1 := ⟨xs.length - 1, by omega⟩
  have hc := row_at hrow 0 (by omega)
  have hx := first_at hxs hk
  obtain ⟨x, ex⟩ : ∃ x, x = xs[0]'(by omega) := ⟨_, rfl⟩
  rw [← ex] at hc hx
  have HX : Hid (x.data.toList = (Pl.parts p.data.toList).head?.getD []) := hx
  have HB : Hid (Below w.heap.size w w1) := hrow.below
  have hk8 : k ≤ 7 := by omega
  rw [hk]
  clear hxs hx ex hrow hn hk
  have h0 : (((k + 1 : Nat) : Int) == 0) = false := by rw [beq_eq_false_iff_ne]; omega
  go_wp2
  go_ret
  exact ⟨x, rfl, by rw [HX.out, HM.out]; rfl, HB.out⟩

set_option maxRecDepth 20000 in
set_option maxHeartbeats 400000 in
theorem top_bad (p : ByteArray) (w : World) (hS : Std w) (hp : p.size ≤ maxLen) (hg : Pl.goodB p.data.toList = false) :
    Calls Tryz.prog 45 #[.string p] w fun e w' => e = .returned (.string ⟨#[]⟩) ∧ Below w.heap.size w w' := by
  have HS : Hid (Std w) := hS
  have HP : Hid (p.size ≤ maxLen) := hp
  have HG : Hid (Pl.goodB p.data.toList = false) := hg
  clear hS hp hg
  go_enter Tryz.func45, Tryz.ntmps45
  go_wp2_with fail
  refine (parts_bad p _ HS.out HP.out HG.out).mono ?_
  rintro e w1 ⟨rfl, hb⟩
  go_wp2
  go_ret
  exact ⟨rfl, hb⟩

set_option maxRecDepth 20000 in
set_option maxHeartbeats 400000 in
theorem parent_yes (p : ByteArray) (w : World) (hS : Std w) (hg : Pl.goodB p.data.toList = true) (h2 : 2 ≤ (Pl.parts p.data.toList).length) :
    Calls Tryz.prog 101 #[.string p] w fun e w' => ∃ x : ByteArray, e = .returned (.tuple #[.string x, .bool true]) ∧ x.data.toList = Pl.parent p.data.toList ∧ Below w.heap.size w w' := by
  have HS : Hid (Std w) := hS
  have HG : Hid (Pl.goodB p.data.toList = true) := hg
  obtain ⟨nm, hnm⟩ : ∃ nm, nm = Pl.parent p.data.toList := ⟨_, rfl⟩
  rw [← hnm]
  have HM : Hid (nm = Pl.parent p.data.toList) := hnm
  have hl := Pl.parent_len hg
  have hix := Pl.lastIndex_good p hg
  obtain ⟨k, hk⟩ : ∃ k, k = (Pl.parent p.data.toList).length := ⟨_, rfl⟩
  rw [← hk] at hl hix
  rw [sz_list] at hl
  have hsz := (Pl.good_parts hg).2.2
  rw [sz_list] at hsz
  have HK : Hid (k = (Pl.parent p.data.toList).length) := hk
  have HI : Hid (Lib.lastIndexByte p 47 = k) := hix
  have H2 : Hid (2 ≤ (Pl.parts p.data.toList).length) := h2
  clear hS hg hnm hix hk h2
  go_enter Tryz.func101, Tryz.ntmps101
  go_wp2_with fail
  refine (parts_good p _ HS.out HG.out).mono ?_
  rintro e w1 ⟨xs, rfl, hxs, hrow⟩
  have hn : 2 ≤ xs.length ∧ xs.length ≤ 8 := by
    have h := parts_len HG.out
    have h' := H2.out
    rw [← hxs, List.length_map] at h h'
    omega
  obtain ⟨n, en⟩ : ∃ n, n = xs.length := ⟨_, rfl⟩
  rw [← en] at hn ⊢
  obtain ⟨hn2, hn8⟩ := hn
  have HB : Hid (Below w.heap.size w w1) := hrow.below
  clear hxs hrow en
  have hn2' : ¬ (n : Int) < 2 := by omega
  go_wp2_with (go_at_call 117; refine (Tryz.strings_LastIndexByte p 47 (by omega) _).mono ?_; rintro e w' ⟨rfl, hw⟩; rw [hw, HI.out]; clear hw w')
  go_ret2
  exact ⟨_, rfl, by rw [Lib.extract_from_zero, HK.out, HM.out]; exact Pl.parent_take HG.out, HB.out⟩

set_option maxRecDepth 20000 in
set_option maxHeartbeats 400000 in
theorem parent_no (p : ByteArray) (w : World) (hS : Std w) (hp : p.size ≤ maxLen) (h2 : (Pl.parts p.data.toList).length < 2) :
    Calls Tryz.prog 101 #[.string p] w fun e w' => e = .returned (.tuple #[.string ⟨#[]⟩, .bool false]) ∧ Below w.heap.size w w' := by
  have HS : Hid (Std w) := hS
  have HP : Hid (p.size ≤ maxLen) := hp
  have H2 : Hid ((Pl.parts p.data.toList).length < 2) := h2
  clear hS hp h2
  cases hg : Pl.goodB p.data.toList with
  | false =>
    have HG : Hid (Pl.goodB p.data.toList = false) := hg
    clear hg
    go_enter Tryz.func101, Tryz.ntmps101
    go_wp2_with fail
    refine (parts_bad p _ HS.out HP.out HG.out).mono ?_
    rintro e w1 ⟨rfl, hb⟩
    go_wp2
    go_ret2
    exact ⟨rfl, hb⟩
  | true =>
    have HG : Hid (Pl.goodB p.data.toList = true) := hg
    clear hg
    go_enter Tryz.func101, Tryz.ntmps101
    go_wp2_with fail
    refine (parts_good p _ HS.out HG.out).mono ?_
    rintro e w1 ⟨xs, rfl, hxs, hrow⟩
    have hn : xs.length < 2 := by
      have h' := H2.out
      rw [← hxs, List.length_map] at h'
      omega
    have hn' : (xs.length : Int) < 2 := by omega
    have HB : Hid (Below w.heap.size w w1) := hrow.below
    clear hxs hrow
    go_wp2
    go_ret2
    exact ⟨rfl, HB.out⟩

theorem data_append (a b : ByteArray) : (a ++ b).data.toList = a.data.toList ++ b.data.toList := by
  rw [ByteArray.data_append, Array.toList_append]

theorem within_eq (p q : ByteArray) (hp : Pl.goodB p.data.toList = true) (hq : Pl.goodB q.data.toList = true) : Lib.hasPrefix (p ++ ⟨#[47]⟩).data.toList (q ++ ⟨#[47]⟩).data.toList = Pl.withinB p.data.toList q.data.toList := by
  unfold Pl.withinB Lib.hasPrefix
  rw [hp, hq, data_append, data_append]; rfl


end Go.Proofs.YtjimemnkmpapgaaGreatDoor.Pa
namespace Go.Proofs.YtjimemnkmpapgaaGreatDoor.Pa
open Go.RowKit

theorem below_grow (w : World) (k : Nat) (os : Array Obj) : Below w.heap.size w (Sort.grow (w.drewN k) os) :=
  ⟨rfl, rfl, rfl, by show w.heap.size ≤ (w.heap ++ os).size; rw [Array.size_append]; omega, fun j hj => by show (w.heap ++ os)[j]? = w.heap[j]?; exact Array.getElem?_append_left hj⟩

theorem itoa_any (n : Int) (h0 : 0 ≤ n) (h1 : n ≤ 2147483647) (w : World) (hS : Std w) :
    Calls Tryz.prog 118 #[.int .i64 n] w fun e w' => ∃ x : ByteArray, e = .returned (.string x) ∧ x.data.toList = Lib.decDigits n.toNat ∧ Below w.heap.size w w' := by
  refine (Tryz.strconv_Itoa n (by omega) (by omega) w hS.tab).mono ?_
  rintro e w' ⟨rfl, k, os, rfl⟩
  exact ⟨_, rfl, by rw [Lib.itoa, if_neg (by omega)], below_grow w k os⟩

theorem zeros_any (c : Int) (w : World) (h0 : 0 ≤ c) (h1 : c ≤ 10) :
    Calls Tryz.prog 119 #[.string ⟨#[48]⟩, .int .i64 c] w fun e w' => ∃ x : ByteArray, e = .returned (.string x) ∧ x.data.toList = List.replicate c.toNat 48 ∧ Below w.heap.size w w' := by
  obtain ⟨k, rfl⟩ := Int.eq_ofNat_of_zero_le h0
  refine (Tryz.strings_Repeat ⟨#[48]⟩ k w (by omega) (by show 1 * k ≤ _; omega)).mono ?_
  rintro e w' ⟨rfl, hb⟩
  refine ⟨_, rfl, ?_, hb⟩
  show Lib.repeatL [48] k = _
  have := Lib.repeatL_replicate 48 1 k
  simpa using this

theorem digits_le {n : Nat} (h : n ≤ 2147483647) : (Lib.decDigits n).length ≤ 10 := by
  rw [Lib.decDigits_eq, List.length_map, List.length_range]
  exact Pl.nDigits_le 9 n (by omega)

set_option maxRecDepth 20000 in
set_option maxHeartbeats 400000 in
theorem number_no (p : ByteArray) (n : Int) (w : World) (hS : Std w) (hp : p.size ≤ maxLen) (hn : Pl.goodB p.data.toList = false ∨ n < 0 ∨ 2147483647 < n) :
    Calls Tryz.prog 102 #[.string p, .int .i64 n] w fun e w' => e = .returned (.tuple #[.string ⟨#[]⟩, .int .i64 1]) ∧ Below w.heap.size w w' := by
  have HS : Hid (Std w) := hS
  have HP : Hid (p.size ≤ maxLen) := hp
  clear hS hp
  cases hg : Pl.goodB p.data.toList with
  | false =>
    have HG : Hid (Pl.goodB p.data.toList = false) := hg
    clear hg hn
    go_enter Tryz.func102, Tryz.ntmps102
    go_wp2_with fail
    refine (good_any p _ HS.out HP.out).mono ?_
    rintro e w1 ⟨rfl, hb⟩
    rw [HG.out]
    have HB : Hid (Below w.heap.size w w1) := hb
    clear hb
    go_wp2
    go_ret2
    exact ⟨rfl, HB.out⟩
  | true =>
    have hn' : n < 0 ∨ 2147483647 < n := by
      rcases hn with h | h
      · rw [hg] at h; cases h
      · exact h
    have HG : Hid (Pl.goodB p.data.toList = true) := hg
    clear hg hn
    rcases hn' with hn | hn
    · go_enter Tryz.func102, Tryz.ntmps102
      go_wp2_with fail
      refine (good_any p _ HS.out HP.out).mono ?_
      rintro e w1 ⟨rfl, hb⟩
      rw [HG.out]
      have HB : Hid (Below w.heap.size w w1) := hb
      clear hb
      go_wp2
      go_ret2
      exact ⟨rfl, HB.out⟩
    · have hn0 : ¬ n < 0 := by omega
      go_enter Tryz.func102, Tryz.ntmps102
      go_wp2_with fail
      refine (good_any p _ HS.out HP.out).mono ?_
      rintro e w1 ⟨rfl, hb⟩
      rw [HG.out]
      have HB : Hid (Below w.heap.size w w1) := hb
      clear hb
      go_wp2
      go_ret2
      exact ⟨rfl, HB.out⟩

set_option maxRecDepth 20000 in
set_option maxHeartbeats 400000 in
theorem number_any (p : ByteArray) (n : Int) (w : World) (hS : Std w) (hg : Pl.goodB p.data.toList = true) (h0 : 0 ≤ n) (h1 : n ≤ 2147483647) :
    Calls Tryz.prog 102 #[.string p, .int .i64 n] w fun e w' => (∃ x : ByteArray, e = .returned (.tuple #[.string x, .int .i64 0]) ∧ x.data.toList = p.data.toList ++ Pl.dig10 n.toNat ∧ Pl.goodB (p.data.toList ++ Pl.dig10 n.toNat) = true ∧ Below w.heap.size w w') ∨
      (e = .returned (.tuple #[.string ⟨#[]⟩, .int .i64 1]) ∧ Pl.goodB (p.data.toList ++ Pl.dig10 n.toNat) = false ∧ Below w.heap.size w w') := by
  have HS : Hid (Std w) := hS
  have HG : Hid (Pl.goodB p.data.toList = true) := hg
  have hsz := (Pl.good_parts hg).2.2
  rw [sz_list] at hsz
  have HP : Hid (p.size ≤ maxLen) := by unfold maxLen; show p.size ≤ 2 ^ 63 - 1; omega
  obtain ⟨t, ht⟩ : ∃ t, t = p.data.toList ++ Pl.dig10 n.toNat := ⟨_, rfl⟩
  rw [← ht]
  have HT : Hid (t = p.data.toList ++ Pl.dig10 n.toNat) := ht
  have HD : Hid ((Lib.decDigits n.toNat).length ≤ 10) := digits_le (by omega)
  clear hS hg ht
  have hn0 : ¬ n < 0 := by omega
  have hn1 : ¬ 2147483647 < n := by omega
  go_enter Tryz.func102, Tryz.ntmps102
  go_wp2_with fail
  refine (good_any p _ HS.out HP.out).mono ?_
  rintro e w1 ⟨rfl, hb⟩
  rw [HG.out]
  have HB : Hid (Below w.heap.size w w1) := hb
  have HS1 : Hid (Std w1) := HS.out.below hb
  clear hb
  go_wp2_with fail
  refine (itoa_any n h0 h1 _ HS1.out).mono ?_
  rintro e w2 ⟨x, rfl, hx, hb2⟩
  have hxs : x.size ≤ 10 := by rw [← sz_list, hx]; exact HD.out
  have HX : Hid (x.data.toList = Lib.decDigits n.toNat) := hx
  have HB2 : Hid (Below w1.heap.size w1 w2) := hb2
  have HS2 : Hid (Std w2) := HS1.out.below hb2
  clear hx hb2
  go_wp2_with fail
  refine (zeros_any _ _ (by omega) (by omega)).mono ?_
  rintro e w3 ⟨y, rfl, hy, hb3⟩
  have hys : y.size ≤ 10 := by rw [← sz_list, hy, List.length_replicate]; omega
  have HB3 : Hid (Below w2.heap.size w2 w3) := hb3
  have HS3 : Hid (Std w3) := HS2.out.below hb3
  have HY : Hid (y.data.toList = List.replicate (10 - x.size) 48) := by rw [hy]; congr 1; omega
  clear hy hb3
  go_wp2_with fail
  have hdata : (p ++ y ++ x).data.toList = t := by
    rw [data_append, data_append, HY.out, HX.out, HT.out, Pl.dig10, List.append_assoc, ← sz_list, HX.out]
  have HDA : Hid ((p ++ y ++ x).data.toList = t) := hdata
  have hts : (p ++ y ++ x).size ≤ 220 := by rw [ByteArray.size_append, ByteArray.size_append]; omega
  have HZ : Hid ((p ++ y ++ x).size ≤ maxLen) := by unfold maxLen; show (p ++ y ++ x).size ≤ 2 ^ 63 - 1; omega
  clear hdata hts
  refine (good_any (p ++ y ++ x) _ HS3.out HZ.out).mono ?_
  rintro e w4 ⟨rfl, hb4⟩
  rw [HDA.out]
  have HB4 : Hid (Below w.heap.size w w4) := HB.out.trans ((HB2.out.mono HB.out.size).trans ((HB3.out.mono (Nat.le_trans HB.out.size HB2.out.size)).trans (hb4.mono (Nat.le_trans HB.out.size (Nat.le_trans HB2.out.size HB3.out.size)))))
  clear hb4
  cases hg2 : Pl.goodB t with
  | false =>
    have HG2 : Hid (Pl.goodB t = false) := hg2
    clear hg2
    go_wp2
    go_ret2
    exact Or.inr ⟨rfl, HG2.out, HB4.out⟩
  | true =>
    have HG2 : Hid (Pl.goodB t = true) := hg2
    clear hg2
    go_wp2
    go_ret2
    exact Or.inl ⟨_, rfl, HDA.out, HG2.out, HB4.out⟩

end Go.Proofs.YtjimemnkmpapgaaGreatDoor.Pa
