/- What path.Join answers. What the reference's Rising answers. -/
import Derived.Test.YtpidafpaffpnaaaGreatDoorLibN
import Derived.Test.YtpidafpaffpnaaaGreatDoorPln
import Derived.BigQuiet
import Derived.Deep.QuietTactic
namespace Go.Proofs.YtpidafpaffpnaaaGreatDoor.Pa
open Go.RowKit

theorem goodNames_at (xs : List ByteArray) (b o c : Nat) (w : World) (hN : xs.length ≤ 140737488355328) (hcells : ∀ (j : Nat) x, xs[j]? = some x → w.cell? ⟨b, o + j, none⟩ = some (.string x)) (hsz : ∀ x ∈ xs, x.size ≤ maxLen) :
    Calls Tryz.prog 156 #[.slice (some ⟨b, o, none⟩) xs.length c] w fun e w' => e = .returned (.bool (Pl.namesB (xs.map (·.data.toList)))) ∧ w' = w := by
  by_cases h0 : xs.length = 0
  · have : xs = [] := List.length_eq_zero_iff.1 h0
    subst this
    exact goodNames_none _ c w
  · by_cases h8 : 8 < xs.length
    · rw [Pl.namesB_many (by simpa using h8)]
      exact goodNames_many _ _ c w h8 hN
    · exact goodNames_some xs b o c w (by omega) (by omega) hcells hsz

set_option maxRecDepth 20000 in
set_option maxHeartbeats 400000 in
theorem join_none (a : Option Addr) (c : Nat) (w : World) :
    Calls Tryz.prog 121 #[.slice a 0 c] w fun e w' => e = .returned (.tuple #[.string ⟨#[]⟩, .int .i64 1]) ∧ Below w.heap.size w w' := by
  go_enter Tryz.func121, Tryz.ntmps121
  go_wp2_with (go_at_call 156; refine (goodNames_none _ _ _).mono ?_; rintro e w' ⟨rfl, hw⟩; rw [hw]; clear hw w')
  go_ret2
  exact ⟨rfl, Below.refl _ _⟩

set_option maxRecDepth 20000 in
set_option maxHeartbeats 400000 in
theorem join_any (xs : List ByteArray) (b o c : Nat) (w : World) (hS : Std w) (hN : xs.length ≤ 140737488355328) (hbk : b < w.heap.size) (hcap : xs.length ≤ c)
    (hcells : ∀ (j : Nat) x, xs[j]? = some x → w.cell? ⟨b, o + j, none⟩ = some (.string x)) (hsz : ∀ x ∈ xs, x.size ≤ maxLen) :
    Calls Tryz.prog 121 #[.slice (some ⟨b, o, none⟩) xs.length c] w fun e w' =>
      (∃ x : ByteArray, e = .returned (.tuple #[.string x, .int .i64 0]) ∧ x.data.toList = Pl.of (xs.map (·.data.toList)) ∧ Pl.joinB (xs.map (·.data.toList)) = true ∧ Below w.heap.size w w') ∨
      (e = .returned (.tuple #[.string ⟨#[]⟩, .int .i64 1]) ∧ Pl.joinB (xs.map (·.data.toList)) = false ∧ Below w.heap.size w w') := by
  have HS : Hid (Std w) := hS
  have HC : Hid (∀ (j : Nat) x, xs[j]? = some x → w.cell? ⟨b, o + j, none⟩ = some (.string x)) := hcells
  have HZ : Hid (∀ x ∈ xs, x.size ≤ maxLen) := hsz
  obtain ⟨l, hl⟩ : ∃ l, l = xs.map (·.data.toList) := ⟨_, rfl⟩
  rw [← hl]
  have HL : Hid (l = xs.map (·.data.toList)) := hl
  clear hS hcells hsz hl
  cases hg : Pl.namesB l with
  | false =>
    have HG : Hid (Pl.namesB l = false) := hg
    clear hg
    go_enter Tryz.func121, Tryz.ntmps121
    go_wp2_with (go_at_call 156; refine (goodNames_at xs b o c _ hN HC.out HZ.out).mono ?_; rintro e w' ⟨rfl, hw⟩; rw [hw, ← HL.out, HG.out]; clear hw w')
    go_ret2
    exact Or.inr ⟨rfl, by rw [Pl.joinB, HG.out]; rfl, Below.refl _ _⟩
  | true =>
    have HG : Hid (Pl.namesB l = true) := hg
    obtain ⟨hj, hne, hn8⟩ := Pl.join_short hg
    have HJ : Hid (47 :: Lib.join l [47] = Pl.of l) := Pl.join_of l hne
    clear hg hne hn8
    go_enter Tryz.func121, Tryz.ntmps121
    go_wp2_with (go_at_call 156; refine (goodNames_at xs b o c _ hN HC.out HZ.out).mono ?_; rintro e w' ⟨rfl, hw⟩; rw [hw, ← HL.out, HG.out]; clear hw w')
    refine (Tryz.strings_Join b o c xs ⟨#[47]⟩ _ HC.out hbk hN hcap (by rw [← HL.out]; exact Nat.le_trans hj (by decide))).mono ?_
    rintro e w1 ⟨rfl, hb⟩
    rw [← HL.out]
    obtain ⟨y, hy⟩ : ∃ y : ByteArray, y = ⟨(Lib.join l (⟨#[47]⟩ : ByteArray).data.toList).toArray⟩ := ⟨_, rfl⟩
    rw [← hy]
    have hyd : y.data.toList = Lib.join l [47] := by rw [hy]
    have hys : y.size ≤ 328 := by rw [← sz_list, hyd]; exact hj
    have HY : Hid (y.data.toList = Lib.join l [47]) := hyd
    have HB : Hid (Below w.heap.size w w1) := hb
    have HS1 : Hid (Std w1) := HS.out.below hb
    clear hb hy hyd
    go_wp2_with fail
    have hdata : ((⟨#[47]⟩ : ByteArray) ++ y).data.toList = Pl.of l := by
      rw [data_append, HY.out, ← HJ.out]; rfl
    have HDA : Hid (((⟨#[47]⟩ : ByteArray) ++ y).data.toList = Pl.of l) := hdata
    have HZ2 : Hid (((⟨#[47]⟩ : ByteArray) ++ y).size ≤ maxLen) := by
      show ((⟨#[47]⟩ : ByteArray) ++ y).size ≤ 2 ^ 63 - 1
      rw [ByteArray.size_append]; show 1 + y.size ≤ _; omega
    clear hdata
    refine (good_any _ _ HS1.out HZ2.out).mono ?_
    rintro e w2 ⟨rfl, hb2⟩
    rw [HDA.out]
    have HB2 : Hid (Below w.heap.size w w2) := HB.out.trans (hb2.mono HB.out.size)
    clear hb2
    cases hg2 : Pl.goodB (Pl.of l) with
    | false =>
      have HG2 : Hid (Pl.goodB (Pl.of l) = false) := hg2
      clear hg2
      go_wp2
      go_ret2
      exact Or.inr ⟨rfl, by rw [Pl.joinB, HG2.out, HG.out]; rfl, HB2.out⟩
    | true =>
      have HG2 : Hid (Pl.goodB (Pl.of l) = true) := hg2
      clear hg2
      go_wp2
      go_ret2
      exact Or.inl ⟨_, rfl, HDA.out, by rw [Pl.joinB, HG2.out, HG.out]; rfl, HB2.out⟩
end Go.Proofs.YtpidafpaffpnaaaGreatDoor.Pa
namespace Go.Proofs.YtpidafpaffpnaaaGreatDoor.Kq
theorem rises_snoc {l : List ByteArray} {x y : ByteArray} (h : Rises l) (hy : l[l.length - 1]? = some y) (hlt : lt y x = true) : Rises (l ++ [x]) := by
  refine List.pairwise_append.2 ⟨h, List.pairwise_singleton _ _, fun a ha b hb => ?_⟩
  simp at hb
  subst hb
  obtain ⟨i, hi, rfl⟩ := List.getElem_of_mem ha
  obtain ⟨hj, hj2⟩ := List.getElem?_eq_some_iff.1 hy
  by_cases e : i = l.length - 1
  · subst e
    rw [hj2]
    exact hlt
  · have := List.pairwise_iff_getElem.1 h i (l.length - 1) hi hj (by omega)
    rw [hj2] at this
    exact lt_trans this hlt
theorem rises_take {l : List ByteArray} {k : Nat} {x y : ByteArray} (h : Rises (l.take k)) (h0 : 0 < k) (hx : l[k]? = some x) (hy : l[k - 1]? = some y) (hlt : lt y x = true) : Rises (l.take (k + 1)) := by
  rw [List.take_add_one, hx]
  have hk : k < l.length := (List.getElem?_eq_some_iff.1 hx).1
  refine rises_snoc h ?_ hlt
  rw [List.length_take, show min k l.length - 1 = k - 1 by omega, List.getElem?_take, if_pos (by omega)]
  exact hy
theorem rises_not {l : List ByteArray} {k : Nat} {x y : ByteArray} (h : Rises l) (h0 : 0 < k) (hx : l[k]? = some x) (hy : l[k - 1]? = some y) : lt y x = true := by
  obtain ⟨h1, h2⟩ := List.getElem?_eq_some_iff.1 hx
  obtain ⟨h3, h4⟩ := List.getElem?_eq_some_iff.1 hy
  have := List.pairwise_iff_getElem.1 h (k - 1) k h3 h1 (by omega)
  rw [h2, h4] at this
  exact this
end Go.Proofs.YtpidafpaffpnaaaGreatDoor.Kq
namespace Go.Proofs.YtpidafpaffpnaaaGreatDoor
open Go.RowKit

set_option maxRecDepth 20000 in
set_option maxHeartbeats 2000000 in
theorem rising_any (u : Value) (ss : List ByteArray) (w : World) (h : Ss w u ss) (hN : ss.length ≤ 100000) :
    Calls Tryz.prog 67 #[u] w (BoolP (Kq.Rises ss) w) := by
  obtain ⟨av, N, c, rfl, hk, hc⟩ := h
  have HC : Hid ((∀ (j : Nat) s, ss[j]? = some s → ∃ g o, av = some ⟨g, o, none⟩ ∧ w.cell? ⟨g, o + j, none⟩ = some (.string s)) ∧ N = ss.length) := ⟨hc, hk⟩
  have hN1 : N ≤ 100000 := by omega
  clear hc hk hN
  go_enter Tryz.func67, Tryz.ntmps67
  go_wp2
  go_loopw [3] (fun i wr => ∃ k : Nat, 0 < k ∧ (k ≤ N ∨ k = 1) ∧ i = .int .i64 (k : Int) ∧ Kq.Rises (ss.take k) ∧ Below w.heap.size w wr) (fun i _ => N + 1 - (intOf i).toNat)
  case atStart =>
    refine ⟨1, by decide, Or.inr rfl, rfl, ?_, Below.refl _ _⟩
    cases ss with
    | nil => exact List.Pairwise.nil
    | cons a l => simp [Kq.Rises]
  case round =>
    obtain ⟨k, hk0, hk, rfl, hr, hb⟩ := hrel
    have HR : Hid (Kq.Rises (ss.take k) ∧ Below w.heap.size w wr) := ⟨hr, hb⟩
    clear hr hb
    by_cases hlt : k < N
    · have hlt' : (k : Int) < (N : Int) := by omega
      have hwk : IntKind.wrap .i64 ((k : Int) + 1) = (k : Int) + 1 := by rw [IntKind.wrap_i64]; omega
      have hwm : IntKind.wrap .i64 ((k : Int) - 1) = ((k - 1 : Nat) : Int) := by rw [IntKind.wrap_i64]; omega
      have i1 : (0 : Int) ≤ (k : Int) := by omega
      have i2 : (0 : Int) ≤ ((k - 1 : Nat) : Int) := by omega
      have i3 : ((k - 1 : Nat) : Int) < (N : Int) := by omega
      obtain ⟨x, hx⟩ : ∃ x, ss[k]? = some x := ⟨_, List.getElem?_eq_getElem (by have := HC.out.2; omega)⟩
      obtain ⟨y, hy⟩ : ∃ y, ss[k - 1]? = some y := ⟨_, List.getElem?_eq_getElem (by have := HC.out.2; omega)⟩
      have HX : Hid (ss[k]? = some x ∧ ss[k - 1]? = some y) := ⟨hx, hy⟩
      obtain ⟨g, o, hav, lx⟩ := HC.out.1 k x hx
      subst hav
      obtain ⟨g2, o2, hav, ly⟩ := HC.out.1 (k - 1) y hy
      simp only [Option.some.injEq, Addr.mk.injEq, and_true] at hav
      obtain ⟨e1, e2⟩ := hav
      rw [← e1, ← e2] at ly
      clear e1 e2 g2 o2 hx hy
      have lx' : wr.cell? ⟨g, o + k, none⟩ = some (.string x) := Below.kept HR.out.2 lx
      have ly' : wr.cell? ⟨g, o + (k - 1), none⟩ = some (.string y) := Below.kept HR.out.2 ly
      clear lx ly
      by_cases hle : (Op.bytesLess x.toList y.toList || x.toList == y.toList) = true
      · have HNO : Hid (¬ Kq.Rises ss) := fun h => by
          have h1 := Kq.rises_not h hk0 HX.out.1 HX.out.2
          rw [Bool.or_eq_true] at hle
          rcases hle with h2 | h2
          · have h3 : Kq.lt x y = true := h2
            rw [Kq.lt_asymm h3] at h1
            cases h1
          · have h3 : x = y := bytes_eq h2
            rw [h3, Kq.lt_irrefl] at h1
            cases h1
        go_wp2_with fail
        go_quiet (fail)
        clear lx' ly'
        go_wp2
        go_ret
        exact ⟨false, rfl, ⟨fun h => (by cases h), fun h => absurd h HNO.out⟩, below_drewN HR.out.2 _⟩
      · have hle' : (Op.bytesLess x.toList y.toList || x.toList == y.toList) = false := by simpa using hle
        have HYES : Hid (Kq.Rises (ss.take (k + 1))) := by
          have h1 := Bool.or_eq_false_iff.1 hle'
          refine Kq.rises_take HR.out.1 hk0 HX.out.1 HX.out.2 ?_
          cases h2 : Kq.lt y x with
          | true => rfl
          | false =>
            have h3 : y = x := Kq.lt_total h2 h1.1
            have h4 := h1.2
            rw [h3] at h4
            simp at h4
        go_wp2_with fail
        go_quiet (fail)
        clear lx' ly'
        have HB : Hid (Below w.heap.size w (wr.drewN nq)) := below_drewN HR.out.2 _
        go_wp2
        go_roundw
        case rel => exact ⟨k + 1, by omega, Or.inl (by omega), by go_num, HYES.out, HB.out⟩
        case measure => simp [intOf]; omega
    · have hlt' : ¬ (k : Int) < (N : Int) := by omega
      have HE : Hid (Kq.Rises ss) := by
        have h := HR.out.1
        rw [List.take_of_length_le (by have := HC.out.2; omega)] at h
        exact h
      go_wp2
      go_ret
      exact ⟨true, rfl, ⟨fun _ => HE.out, fun _ => rfl⟩, HR.out.2⟩
end Go.Proofs.YtpidafpaffpnaaaGreatDoor
