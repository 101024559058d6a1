/- The walk of the statement PackApart: it answers true. -/
import Derived.Test.YteloehalobampaaRSame
import Derived.Deep.RegionWith
namespace Go.Proofs.Yteloehalobampaa
open Go.RowKit

theorem below_drew {w w' : World} (h : Below w.drew.heap.size w.drew w') : Below w.heap.size w w' := ⟨h.os, h.tape, h.output, h.size, h.block⟩

/-- Texts in bytes, one behind the other. -/
def txts (ss : List ByteArray) : List UInt8 := ss.flatMap fun s => Pk.txt s.data.toList

theorem txts_take (ss : List ByteArray) (k : Nat) (s : ByteArray) (h : ss[k]? = some s) : txts (ss.take (k + 1)) = txts (ss.take k) ++ Pk.txt s.data.toList := by
  unfold txts
  rw [List.take_add_one, h]; simp

theorem txts_len (ss : List ByteArray) (h : ∀ s ∈ ss, s.size ≤ 100) : (txts ss).length ≤ 108 * ss.length := by
  induction ss with
  | nil => simp [txts]
  | cons s ss ih =>
    have h1 := ih (fun x hx => h x (List.mem_cons_of_mem _ hx))
    have h2 := h s List.mem_cons_self
    have h3 : s.data.toList.length = s.size := rfl
    unfold txts at h1 ⊢
    rw [List.flatMap_cons, List.length_append, List.length_cons]
    simp only [Pk.txt, List.length_append, Pk.be8_len] at *
    omega

theorem txts_inj : ∀ (ss tt : List ByteArray), (∀ s ∈ ss, s.size ≤ 100) → (∀ s ∈ tt, s.size ≤ 100) → txts ss = txts tt → ss = tt
  | [], [], _, _, _ => rfl
  | [], t :: tt, _, _, h => by
    have h1 := congrArg List.length h
    simp [txts, Pk.txt, Pk.be8_len] at h1
    omega
  | s :: ss, [], _, _, h => by
    have h1 := congrArg List.length h
    simp [txts, Pk.txt, Pk.be8_len] at h1
  | s :: ss, t :: tt, hs, ht, h => by
    have e : ∀ (x : ByteArray) (l : List ByteArray), txts (x :: l) = Pk.txt x.data.toList ++ txts l := fun x l => by simp [txts]
    rw [e, e] at h
    have z1 : s.data.toList.length = s.size := rfl
    have z2 : t.data.toList.length = t.size := rfl
    have b1 := hs s List.mem_cons_self
    have b2 := ht t List.mem_cons_self
    have h1 := Pk.rT_txt 100 s.data.toList (txts ss) false (by omega) (by omega)
    rw [h, Pk.rT_txt 100 t.data.toList (txts tt) false (by omega) (by omega)] at h1
    simp only [Prod.mk.injEq, and_true] at h1
    have e1 : s = t := (ByteArray.ext (Array.toList_inj.1 h1.1)).symm
    rw [e1, txts_inj ss tt (fun x hx => hs x (List.mem_cons_of_mem _ hx)) (fun x hx => ht x (List.mem_cons_of_mem _ hx)) h1.2.symm]

theorem take_small {ss : List ByteArray} {k : Nat} {s : ByteArray} (h : ss[k]? = some s) (h1 : ∀ x ∈ ss.take k, x.size ≤ 100) (h2 : (s.size : Int) ≤ 100) : ∀ x ∈ ss.take (k + 1), x.size ≤ 100 := by
  intro x hx
  rw [List.take_add_one, h] at hx
  rcases List.mem_append.1 hx with hx | hx
  · exact h1 x hx
  · simp at hx; subst hx; omega

set_option maxHeartbeats 1000000 in
theorem apart_many (u v : Value) (ss tt : List ByteArray) (w : World) (hu : Ss w u ss) (hv : Ss w v tt) (hss : ss.length ≤ maxLen) (htt : tt.length ≤ maxLen) (h : 20 < ss.length ∨ 20 < tt.length) :
    Calls Try.prog 6 #[u, v] w fun e w' => e = .returned (.bool true) ∧ Below w.heap.size w w' := by
  obtain ⟨av, n, c, rfl, hn, _⟩ := hu
  obtain ⟨bv, m, d, rfl, hm, _⟩ := hv
  rw [← hn] at hss h
  rw [← hm] at htt h
  unfold maxLen at hss htt
  clear hn hm
  by_cases h1 : (20 : Int) < n
  · clear h
    go_enter Try.func6, Try.ntmps6
    go_wp2_with fail
    refine (awake_any _).mono ?_
    rintro e w1 ⟨rfl, hb⟩
    have HB1 : Hid (Below w.heap.size w w1) := hb
    clear hb
    go_wp2
    go_ret
    exact ⟨rfl, HB1.out⟩
  · have h2 : (20 : Int) < m := by omega
    clear h
    go_enter Try.func6, Try.ntmps6
    go_wp2_with fail
    refine (awake_any _).mono ?_
    rintro e w1 ⟨rfl, hb⟩
    have HB1 : Hid (Below w.heap.size w w1) := hb
    clear hb
    go_wp2
    go_ret
    exact ⟨rfl, HB1.out⟩

set_option maxHeartbeats 2000000 in
theorem apart_few (u v : Value) (ss tt : List ByteArray) (w : World) (hu : Ss w u ss) (hv : Ss w v tt) (hs1 : ∀ s ∈ ss, s.size ≤ maxLen) (hs2 : ∀ s ∈ tt, s.size ≤ maxLen) (h1 : ss.length ≤ 20) (h2 : tt.length ≤ 20) :
    Calls Try.prog 6 #[u, v] w fun e w' => e = .returned (.bool true) ∧ Below w.heap.size w w' := by
  have HU : Hid (Ss w u ss) := hu
  have HV : Hid (Ss w v tt) := hv
  have HS1 : Hid (∀ s ∈ ss, s.size ≤ maxLen) := hs1
  have HS2 : Hid (∀ s ∈ tt, s.size ≤ maxLen) := hs2
  have HL1 : Hid (ss.length ≤ 20) := h1
  have HL2 : Hid (tt.length ≤ 20) := h2
  obtain ⟨av, n, c, rfl, hn, hcs⟩ := hu
  obtain ⟨bv, m, d, rfl, hm, hds⟩ := hv
  rw [← hn] at h1
  rw [← hm] at h2
  have HN : Hid (n = ss.length) := hn
  have HM : Hid (m = tt.length) := hm
  have HC : Hid (∀ (j : Nat) s, ss[j]? = some s → ∃ g o, av = some ⟨g, o, none⟩ ∧ w.cell? ⟨g, o + j, none⟩ = some (.string s)) := hcs
  have HD : Hid (∀ (j : Nat) s, tt[j]? = some s → ∃ g o, bv = some ⟨g, o, none⟩ ∧ w.cell? ⟨g, o + j, none⟩ = some (.string s)) := hds
  obtain ⟨r, hr⟩ : ∃ r, r = decide (ss = tt) := ⟨_, rfl⟩
  have HR : Hid (r = decide (ss = tt)) := hr
  obtain ⟨X, hX⟩ : ∃ X : ByteArray, X = ⟨(txts ss).toArray⟩ := ⟨_, rfl⟩
  have HX0 : Hid (X = ⟨(txts ss).toArray⟩) := hX
  obtain ⟨Y, hY⟩ : ∃ Y : ByteArray, Y = ⟨(txts tt).toArray⟩ := ⟨_, rfl⟩
  have HY0 : Hid (Y = ⟨(txts tt).toArray⟩) := hY
  clear hn hm hcs hds hs1 hs2 hr hX hY
  have h1' : ¬ (20 : Int) < n := by omega
  have h2' : ¬ (20 : Int) < m := by omega
  go_enter Try.func6, Try.ntmps6
  go_wp2_with fail
  refine (awake_any _).mono ?_
  rintro e w1 ⟨rfl, hb⟩
  have HB1 : Hid (Below w.heap.size w w1) := hb
  clear hb
  go_wp2
  go_loopw [5, 7] (fun x i wr => ∃ k : Nat, k ≤ n ∧ i = .int .i64 k ∧ Bs wr x (txts (ss.take k)) ∧ (∀ s ∈ ss.take k, s.size ≤ 100) ∧ Below w.heap.size w wr) (fun _ i _ => n - (intOf i).toNat)
  case atStart => exact ⟨0, Nat.zero_le _, rfl, by simpa [txts] using Bs.nil w1, by simp, HB1.out⟩
  case round =>
    obtain ⟨k, hk, rfl, hx, hsm, hb⟩ := hrel
    have HX : Hid (Bs wr u5 (txts (ss.take k))) := hx
    have HM1 : Hid (∀ s ∈ ss.take k, s.size ≤ 100) := hsm
    have HB2 : Hid (Below w.heap.size w wr) := hb
    clear hx hsm hb
    by_cases hlt : k < n
    · obtain ⟨s, hs⟩ : ∃ s, ss[k]? = some s := ⟨ss[k]'(by rw [← HN.out]; exact hlt), List.getElem?_eq_getElem _⟩
      obtain ⟨g, o, rfl, hc⟩ := HC.out k s hs
      have hcell : wr.cell? ⟨g, o + k, none⟩ = some (.string s) := Below.kept HB2.out hc
      have HE : Hid (ss[k]? = some s) := hs
      have hsz : s.size ≤ 9223372036854775807 := HS1.out s (List.mem_of_getElem? hs)
      clear hs hc
      have hlt' : (k : Int) < n := by omega
      by_cases h100 : (100 : Int) < s.size
      · go_wp2
        go_ret
        exact ⟨rfl, HB2.out⟩
      · have HXL : Hid ((txts (ss.take k)).length ≤ 100000) := by
          have h := txts_len _ HM1.out
          have h3 : (ss.take k).length ≤ k := by rw [List.length_take]; omega
          have h4 : (txts (ss.take k)).length ≤ 100000 := by omega
          exact h4
        go_wp2_with (go_at_call 11; refine (text_bs u5 _ s _ HX.out HXL.out (by omega)).mono ?_; rintro e w3 ⟨v3, rfl, hbs, hb⟩)
        have HX3 : Hid (Bs w3 v3 (txts (ss.take (k + 1)))) := by
          have h := hbs
          rw [← txts_take ss k s HE.out] at h
          exact h
        have HB3 : Hid (Below w.heap.size w w3) := HB2.out.trans (hb.mono HB2.out.size)
        clear hbs hb
        go_wp2
        go_roundw
        case rel => exact ⟨k + 1, by omega, by go_num, HX3.out, take_small HE.out HM1.out (by omega), HB3.out⟩
        case measure => simp [intOf]; omega
    · have hlt' : ¬ (k : Int) < n := by omega
      have hfull : ss.take k = ss := List.take_of_length_le (by rw [← HN.out]; omega)
      rw [hfull] at HX HM1
      clear hfull
      go_wp2
      go_loopw [6, 8] (fun y i wq => ∃ k : Nat, k ≤ m ∧ i = .int .i64 k ∧ Bs wq y (txts (tt.take k)) ∧ Bs wq u5 (txts ss) ∧ (∀ s ∈ tt.take k, s.size ≤ 100) ∧ Below w.heap.size w wq) (fun _ i _ => m - (intOf i).toNat)
      case atStart => exact ⟨0, Nat.zero_le _, rfl, by simpa [txts] using Bs.nil wr, HX.out, by simp, HB2.out⟩
      case round =>
        obtain ⟨k2, hk2, rfl, hy, hx, hsm, hb⟩ := hrel
        have HY : Hid (Bs wr u6 (txts (tt.take k2))) := hy
        have HX2 : Hid (Bs wr u5 (txts ss)) := hx
        have HM2 : Hid (∀ s ∈ tt.take k2, s.size ≤ 100) := hsm
        have HB4 : Hid (Below w.heap.size w wr) := hb
        clear hy hx hsm hb
        by_cases hlt2 : k2 < m
        · obtain ⟨s, hs⟩ : ∃ s, tt[k2]? = some s := ⟨tt[k2]'(by rw [← HM.out]; exact hlt2), List.getElem?_eq_getElem _⟩
          obtain ⟨g, o, rfl, hc⟩ := HD.out k2 s hs
          have hcell : wr.cell? ⟨g, o + k2, none⟩ = some (.string s) := Below.kept HB4.out hc
          have HE : Hid (tt[k2]? = some s) := hs
          have hsz : s.size ≤ 9223372036854775807 := HS2.out s (List.mem_of_getElem? hs)
          clear hs hc
          have hlt' : (k2 : Int) < m := by omega
          by_cases h100 : (100 : Int) < s.size
          · go_wp2
            go_ret
            exact ⟨rfl, HB4.out⟩
          · have HXL : Hid ((txts (tt.take k2)).length ≤ 100000) := by
              have h := txts_len _ HM2.out
              have h3 : (tt.take k2).length ≤ k2 := by rw [List.length_take]; omega
              have h4 : (txts (tt.take k2)).length ≤ 100000 := by omega
              exact h4
            go_wp2_with (go_at_call 11; refine (text_bs u6 _ s _ HY.out HXL.out (by omega)).mono ?_; rintro e w3 ⟨v3, rfl, hbs, hb⟩)
            have HY3 : Hid (Bs w3 v3 (txts (tt.take (k2 + 1)))) := by
              have h := hbs
              rw [← txts_take tt k2 s HE.out] at h
              exact h
            have HX3 : Hid (Bs w3 u5 (txts ss)) := HX2.out.below hb
            have HB3 : Hid (Below w.heap.size w w3) := HB4.out.trans (hb.mono HB4.out.size)
            clear hbs hb
            go_wp2
            go_roundw
            case rel => exact ⟨k2 + 1, by omega, by go_num, HY3.out, HX3.out, take_small HE.out HM2.out (by omega), HB3.out⟩
            case measure => simp [intOf]; omega
        · have hlt' : ¬ (k2 : Int) < m := by omega
          have hfull : tt.take k2 = tt := List.take_of_length_le (by rw [← HM.out]; omega)
          rw [hfull] at HY HM2
          have hxy : (X.toList == Y.toList) = r := by
            rw [HX0.out, HY0.out, HR.out, ByteArray.toList_eq, ByteArray.toList_eq]
            by_cases h : ss = tt
            · rw [h]; simp
            · rw [decide_eq_false h]
              have h5 : txts ss ≠ txts tt := fun e => h (txts_inj ss tt HM1.out HM2.out e)
              simpa using h5
          have hcx : (convert 25 9 u5).run Try.prog wr.drew = .ok (.string X) wr.drew := by rw [HX0.out]; exact (HX2.out.below (Below.refl _ wr).drew).conv
          have hcy : (convert 25 9 u6).run Try.prog wr.drew = .ok (.string Y) wr.drew := by rw [HY0.out]; exact (HY.out.below (Below.refl _ wr).drew).conv
          clear hfull
          go_wp2
          go_region_with (go_at_call 24; refine (same_any _ _ ss tt _ (HU.out.below HB4.out.drew) (HV.out.below HB4.out.drew) (by have := HL1.out; omega) (by have := HL2.out; omega)).mono ?_; rintro e w3 ⟨rfl, hb3⟩; rw [← HR.out]; have hcx3 : (convert 25 9 u5).run Try.prog w3 = .ok (.string X) w3 := (by rw [HX0.out]; exact (HX2.out.below (below_drew hb3)).conv); have hcy3 : (convert 25 9 u6).run Try.prog w3 = .ok (.string Y) w3 := (by rw [HY0.out]; exact (HY.out.below (below_drew hb3)).conv); have HB5 : Hid (Below w.heap.size w w3) := HB4.out.trans ((below_drew hb3).mono HB4.out.size); clear hb3)
          all_goals
            go_wp2
            go_ret
            exact ⟨rfl, HB5.out⟩

theorem apart_any (u v : Value) (ss tt : List ByteArray) (w : World) (hu : Ss w u ss) (hv : Ss w v tt) (hl1 : ss.length ≤ maxLen) (hl2 : tt.length ≤ maxLen) (hs1 : ∀ s ∈ ss, s.size ≤ maxLen) (hs2 : ∀ s ∈ tt, s.size ≤ maxLen) :
    Calls Try.prog 6 #[u, v] w fun e w' => e = .returned (.bool true) ∧ Below w.heap.size w w' := by
  by_cases h : 20 < ss.length ∨ 20 < tt.length
  · exact apart_many u v ss tt w hu hv hl1 hl2 h
  · exact apart_few u v ss tt w hu hv hs1 hs2 (by omega) (by omega)
end Go.Proofs.Yteloehalobampaa
