/- What Put and Scan are asked to answer (proved of the landed code in WPut and WScan); what the statements' own 'all' answers. -/
import Derived.Test.YtnpdfendcffapaaPlainG
import Derived.Test.YtnpdfendcffapaaRows2
import Derived.Lib.SlBytesConst
import Derived.BigRegion
import Derived.Deep.QuietTactic
import Derived.BigQuiet
import Derived.Deep.RegionWith
namespace Go.Proofs.Ytnpdfendcffapaa
open Go.RowKit

/-- Put, of a record that is not too long. -/
def PutSpec : Prop := ∀ (v u : Value) (xs r : List UInt8) (w : World), Bs w v xs → Bs w u r → xs.length ≤ 100000 → r.length ≤ 20000 →
  Calls Try.prog 9 #[v, u] w fun e w' => ∃ v', e = .returned (.tuple #[v', .int .i64 0]) ∧ w'.ownsRow w.heap.size 5 1 v' (xs.length + (12 + r.length)) (bc (xs ++ Fr.frame r)) ∧ Below w.heap.size w w'
/-- Put, of a record that is too long. -/
def LongSpec : Prop := ∀ (v u : Value) (xs r : List UInt8) (w : World), Bs w v xs → Bs w u r → 20000 < r.length → r.length ≤ maxLen →
  Calls Try.prog 9 #[v, u] w fun e w' => ∃ v', e = .returned (.tuple #[v', .int .i64 2]) ∧ Below w.heap.size w w'
/-- Where there is no address there is no room. -/
def Nz (v : Value) : Prop := ∀ k c, v = .slice none k c → k = 0 ∧ c = 0
/-- Scan. -/
def ScanSpec : Prop := ∀ (v : Value) (xs : List UInt8) (w : World), Bs w v xs → xs.length ≤ 100000 →
  Calls Try.prog 10 #[v] w fun e w' => ∃ l, e = .returned (.tuple #[l, .int .i64 ((Fr.scan xs).2.1 : Int), .int .i64 ((Fr.scan xs).2.2 : Int)]) ∧ Bl w' l (Fr.scan xs).1 ∧ Nz l ∧ Below w.heap.size w w'

/-- A part of a list of rows. -/
theorem Bl.at {w : World} {v : Value} {ls : List (List UInt8)} (h : Bl w v ls) (h0 : 0 < ls.length) : ∃ g o c, v = .slice (some ⟨g, o, none⟩) ls.length c ∧ ∀ (j : Nat) xs, ls[j]? = some xs → ∃ u, w.cell? ⟨g, o + j, none⟩ = some u ∧ Bs w u xs := by
  obtain ⟨av, k, c, rfl, hk, hc⟩ := h
  obtain ⟨g, o, u, rfl, _, _⟩ := hc 0 ls[0] (List.getElem?_eq_getElem h0)
  refine ⟨g, o, c, by rw [hk], fun j xs hx => ?_⟩
  obtain ⟨g', o', u', e, h1, h2⟩ := hc j xs hx
  simp only [Option.some.injEq, Addr.mk.injEq, and_true] at e
  obtain ⟨rfl, rfl⟩ := e
  exact ⟨u', h1, h2⟩

theorem eq_of_take {α : Type} {a b : List α} (hl : a.length = b.length) (h : ∀ j : Nat, j < a.length → a[j]? = b[j]?) : a = b := by
  apply List.ext_getElem?
  intro j
  by_cases hj : j < a.length
  · exact h j hj
  · rw [List.getElem?_eq_none (by omega), List.getElem?_eq_none (by omega)]

set_option maxHeartbeats 1000000 in
theorem all_any (v u : Value) (ls ms : List (List UInt8)) (w : World) (hv : Bl w v ls) (hu : Bl w u ms) (hl : ls.length ≤ 1000000) :
    Calls Try.prog 13 #[v, u] w fun e w' => e = .returned (.bool (decide (ls = ms))) ∧ Below w.heap.size w w' := by
  have HV : Hid (Bl w v ls) := hv
  have HU : Hid (Bl w u ms) := hu
  obtain ⟨av, n, cv, rfl, hn, _⟩ := hv
  obtain ⟨au, m, cu, rfl, hm2, _⟩ := hu
  have HN : Hid (n = ls.length ∧ m = ms.length) := ⟨hn, hm2⟩
  have hn1 : n ≤ 1000000 := by omega
  obtain ⟨R, hR⟩ : ∃ R : Bool, R = decide (ls = ms) := ⟨_, rfl⟩
  have HR : Hid (R = decide (ls = ms)) := hR
  rw [← hR]
  clear hn hm2 hl hR
  go_enter Try.func13, Try.ntmps13
  by_cases hnm : n = m
  · subst hnm
    go_wp2
    go_loopw [5] (fun i wr => ∃ k : Nat, k ≤ n ∧ i = .int .i64 (k : Int) ∧ (∀ j : Nat, j < k → ls[j]? = ms[j]?) ∧ Below w.heap.size w wr) (fun i _ => ((n : Int) - intOf i).toNat)
    case atStart => exact ⟨0, Nat.zero_le _, rfl, fun j hj => by omega, Below.refl _ _⟩
    case round =>
      obtain ⟨k, hk, rfl, hsame, hb⟩ := hrel
      have HS : Hid (∀ j : Nat, j < k → ls[j]? = ms[j]?) := hsame
      have HB : Hid (Below w.heap.size w wr) := hb
      clear hsame
      by_cases hlt : k < n
      · have hlt' : (k : Int) < (n : Int) := by omega
        have hk1 : k < ls.length := by rw [← HN.out.1]; exact hlt
        have hk2 : k < ms.length := by rw [← HN.out.2]; exact hlt
        obtain ⟨g1, o1, c1, hv1, hc1⟩ := (HV.out.below hb).at (by omega)
        obtain ⟨g2, o2, c2, hv2, hc2⟩ := (HU.out.below hb).at (by omega)
        simp only [Value.slice.injEq] at hv1 hv2
        obtain ⟨rfl, hx1, rfl⟩ := hv1
        obtain ⟨rfl, hx2, rfl⟩ := hv2
        obtain ⟨a, ha, hba⟩ := hc1 k ls[k] (List.getElem?_eq_getElem hk1)
        obtain ⟨b, hb2, hbb⟩ := hc2 k ms[k] (List.getElem?_eq_getElem hk2)
        obtain ⟨X, hX⟩ : ∃ X : ByteArray, X = ⟨ls[k].toArray⟩ := ⟨_, rfl⟩
        obtain ⟨Y, hY⟩ : ∃ Y : ByteArray, Y = ⟨ms[k].toArray⟩ := ⟨_, rfl⟩
        have hcx : ∀ q, (convert 23 9 a).run Try.prog (wr.drewN q) = .ok (.string X) (wr.drewN q) := fun q => by rw [hX]; exact (hba.below (below_drewN (Below.refl _ wr) q)).conv
        have hcy : ∀ q, (convert 23 9 b).run Try.prog (wr.drewN q) = .ok (.string Y) (wr.drewN q) := fun q => by rw [hY]; exact (hbb.below (below_drewN (Below.refl _ wr) q)).conv
        obtain ⟨q, hq⟩ : ∃ q : Bool, (X.toList == Y.toList) = q := ⟨_, rfl⟩
        have HQ : Hid (q = true ↔ ls[k]? = ms[k]?) := by
          have h : q = true ↔ ls[k]? = ms[k]? := by
            rw [← hq, hX, hY, ByteArray.toList_eq, ByteArray.toList_eq, List.getElem?_eq_getElem hk1, List.getElem?_eq_getElem hk2]
            simp
          exact h
        have ha1 : a.oneCell' = true := by obtain ⟨_, _, _, rfl, _⟩ := hba; rfl
        have hb1 : b.oneCell' = true := by obtain ⟨_, _, _, rfl, _⟩ := hbb; rfl
        clear hc1 hc2 hba hbb hX hY hx1 hx2 hb hk1 hk2
        go_wp2
        go_quiet (fail)
        have HB2 : Hid (Below w.heap.size w (wr.drewN nq)) := below_drewN HB.out nq
        clear hcx hcy hq ha hb2 ha1 hb1
        generalize wr.drewN nq = w2 at *
        cases q with
        | false =>
          have HF : Hid (R = false) := by
            have h : R = false := by
              rw [HR.out]
              refine decide_eq_false fun e => ?_
              have h2 : false = true := HQ.out.2 (by rw [e])
              cases h2
            exact h
          go_wp2
          go_ret
          rw [HF.out]
          exact ⟨rfl, HB2.out⟩
        | true =>
          have HS2 : Hid (∀ j : Nat, j < k + 1 → ls[j]? = ms[j]?) := fun j hj => by
            by_cases hjk : j < k
            · exact HS.out j hjk
            · obtain rfl : j = k := by omega
              exact HQ.out.1 (by trivial)
          go_wp2
          go_roundw
          case rel => exact ⟨k + 1, by omega, by go_num, HS2.out, HB2.out⟩
          case measure => simp [intOf]; omega
      · have hlt' : ¬ (k : Int) < (n : Int) := by omega
        obtain rfl : k = n := by omega
        have HT : Hid (R = true) := by
          have h : R = true := by
            rw [HR.out]
            exact decide_eq_true (eq_of_take (by rw [← HN.out.1, ← HN.out.2]) (fun j hj => HS.out j (by rw [HN.out.1]; exact hj)))
          exact h
        clear hb
        go_wp2
        go_ret
        rw [HT.out]
        exact ⟨rfl, HB.out⟩
  · have hne : ¬ (n : Int) = (m : Int) := by omega
    have HF : Hid (R = false) := by
      have h : R = false := by
        rw [HR.out]
        refine decide_eq_false fun e => hnm ?_
        rw [HN.out.1, HN.out.2, e]
      exact h
    go_wp2
    go_ret
    rw [HF.out]
    exact ⟨rfl, Below.refl _ _⟩

set_option maxRecDepth 20000 in
set_option maxHeartbeats 1000000 in
theorem awake_any (hp : PutSpec) (hs : ScanSpec) (w : World) : Calls Try.prog 8 #[] w fun e w' => e = .returned (.bool true) ∧ Below w.heap.size w w' := by
  have HP : Hid PutSpec := hp
  have HSc : Hid ScanSpec := hs
  clear hp hs
  have kc := fun (w : World) (C : Array Value) (n c : Nat) => Lib.run_convert_bytes_const (P := Try.prog) w 23 5 C n c Try.underlying23 Try.underlying5
  have HB2 : Hid (∀ fz, Bs (w.alloc (.cells #[.int .u8 97, .int .u8 98] 5 fz)) (.slice (some ⟨w.heap.size, 0, none⟩) 2 2) [97, 98]) := fun fz => Bs.made w [97, 98] _ fz
  go_enter Try.func8, Try.ntmps8
  go_wp2_with fail
  refine (HP.out _ _ [] [97, 98] _ (Bs.nil _) (HB2.out _) (by simp) (by simp)).mono ?_
  rintro e w1 ⟨v1, rfl, ho, hb⟩
  have HO1 : Hid (Bs w1 v1 (Fr.frame [97, 98])) := Bs.own ho
  have HB1 : Hid (Below w.heap.size w w1) := ((Below.refl _ w).alloc (Nat.le_refl _) _).trans (hb.mono (by simp))
  clear ho hb
  go_wp2_with fail
  refine (HP.out v1 _ _ [] _ HO1.out (Bs.nil _) (by rw [Fr.frame_len]; simp) (by simp)).mono ?_
  rintro e w2 ⟨v2, rfl, ho, hb⟩
  obtain ⟨ao2, c2, rfl⟩ := own_shape ho
  have HO2 : Hid (Bs w2 (.slice ao2 26 c2) (Fr.frame [97, 98] ++ Fr.frame [])) := Bs.own ho
  have HBB2 : Hid (Below w.heap.size w w2) := HB1.out.trans (hb.mono HB1.out.size)
  have e26 : (Fr.frame [97, 98]).length + (12 + ([] : List UInt8).length) = 26 := by rw [Fr.frame_len]; rfl
  rw [e26]
  clear ho hb e26
  go_wp2_with fail
  refine (HSc.out _ _ _ HO2.out (by rw [List.length_append, Fr.frame_len, Fr.frame_len]; simp)).mono ?_
  have hsc : Fr.scan (Fr.frame [97, 98] ++ Fr.frame []) = ([[97, 98], []], 26, 0) := by
    have h := Fr.scan_whole [[97, 98], []] (by simp)
    have e : Fr.frames [[97, 98], []] = Fr.frame [97, 98] ++ Fr.frame [] := by simp [Fr.frames]
    rw [e] at h
    rw [h, List.length_append, Fr.frame_len, Fr.frame_len]
    rfl
  rw [hsc]
  rintro e w3 ⟨l, rfl, hl, _, hb⟩
  obtain ⟨g3, o3, c3, rfl, hcs⟩ := hl.at (by simp)
  obtain ⟨u, hu, hbu⟩ := hcs 0 [97, 98] rfl
  simp only [Nat.add_zero] at hu
  have hcv := hbu.conv
  have HBB3 : Hid (Below w.heap.size w w3) := HBB2.out.trans (hb.mono HBB2.out.size)
  have hu1 : u.oneCell' = true := by obtain ⟨_, _, _, rfl, _⟩ := hbu; rfl
  clear hcs hbu hl hb hsc
  go_wp2
  go_ret
  exact ⟨rfl, HBB3.out⟩
end Go.Proofs.Ytnpdfendcffapaa
