/- What op.May answers, of every request. -/
import Derived.Test.YtjimemnkmpapgaaGreatDoorWGood
import Derived.Test.YtjimemnkmpapgaaGreatDoorWFunc
namespace Go.Proofs.YtjimemnkmpapgaaGreatDoor
open Go.RowKit

/-- Of Ops that may be, those that read are those of a Kind from 5 on. -/
theorem any_reads {os : List O} (h : Oq.firstBad os = 0) : (os.any fun o => decide (o.kind = 5) || decide (o.kind = 6) || decide (o.kind = 7)) = os.any fun o => decide (5 ≤ o.kind) := by
  have hg := firstBad_none h
  clear h
  induction os with
  | nil => rfl
  | cons o os ih =>
    have h1 := hg o (by simp)
    have hk : 1 ≤ o.kind ∧ o.kind ≤ 7 := by
      cases hh : Oq.headB o with
      | true =>
        rw [Oq.good_head hh] at h1
        cases h1
      | false => exact ⟨(Oq.head_no hh).1, (Oq.head_no hh).2.1⟩
    have e : (decide (o.kind = 5) || decide (o.kind = 6) || decide (o.kind = 7)) = decide (5 ≤ o.kind) := by
      by_cases h5 : 5 ≤ o.kind
      · rw [decide_eq_true h5]
        have h6 : o.kind = 5 ∨ o.kind = 6 ∨ o.kind = 7 := by omega
        rcases h6 with h6 | h6 | h6 <;> simp [h6]
      · rw [decide_eq_false h5, decide_eq_false (by omega), decide_eq_false (by omega), decide_eq_false (by omega)]
        rfl
    rw [List.any_cons, List.any_cons, e, ih (fun x hx => hg x (by simp [hx]))]

set_option maxRecDepth 20000 in
set_option maxHeartbeats 4000000 in
theorem may_spec : MaySpec := by
  intro s n u os w hS hu hl hfit
  have HU : Hid (Ol w u os ∧ os.length ≤ maxLen ∧ ∀ o ∈ os, Fit o) := ⟨hu, hl, hfit⟩
  have HBX : Hid (Box3 (w.alloc (.cells #[.int .i64 s, .int .i64 n, u] 30)) w.heap.size s n u) := Box3.made w s n u _
  have HB0 : Hid (Below w.heap.size w (w.alloc (.cells #[.int .i64 s, .int .i64 n, u] 30))) := (Below.refl _ w).alloc (Nat.le_refl _) _
  have HST : Hid (Pa.Std w) := hS
  obtain ⟨R, hR⟩ : ∃ R : Int, R = Oq.may s n os := ⟨_, rfl⟩
  have HR : Hid (R = Oq.may s n os) := hR
  rw [← hR]
  obtain ⟨au, m, cu, rfl, hm, hX⟩ := hu
  have HM : Hid (m = os.length) := hm
  clear hR hS hm hX hl hfit
  have eg : ∀ args w, (callFunc 55 args).run Tryz.prog w = .ok (.enter 55 args) w := enters_of Tryz.func55 (by kernel_rfl) rfl
  have HE : Hid (∀ args w, (callFunc 55 args).run Tryz.prog w = .ok (.enter 55 args) w) := eg
  clear eg
  go_enter Tryz.func32, Tryz.ntmps32
  go_upto_region 1 with fail
  generalize w.alloc (.cells #[.int .i64 s, .int .i64 n, .slice au m cu] 30) = w1 at *
  obtain ⟨c0, c1, c2⟩ := HBX.out
  by_cases h1 : s < 1
  · have H3 : Hid (R = 1) := by
      have h : R = 1 := by rw [HR.out]; unfold Oq.may; rw [if_pos (Or.inl h1)]
      exact h
    go_wp2
    go_ret
    rw [H3.out]
    exact ⟨rfl, HB0.out⟩
  by_cases h2 : n < 1
  · have H3 : Hid (R = 1) := by
      have h : R = 1 := by rw [HR.out]; unfold Oq.may; rw [if_pos (Or.inr (Or.inl h2))]
      exact h
    go_wp2
    go_ret
    rw [H3.out]
    exact ⟨rfl, HB0.out⟩
  by_cases h3 : m = 0
  · have H3 : Hid (R = 1) := by
      have h : R = 1 := by rw [HR.out]; unfold Oq.may; rw [if_pos (Or.inr (Or.inr (by rw [← HM.out]; exact h3)))]
      exact h
    subst h3
    go_wp2
    go_ret
    rw [H3.out]
    exact ⟨rfl, HB0.out⟩
  have h3' : ¬ (m : Int) = 0 := by omega
  by_cases h16 : 16 < m
  · have h16' : (16 : Int) < (m : Int) := by omega
    have H3 : Hid (R = 2) := by
      have h : R = 2 := by rw [HR.out]; unfold Oq.may; rw [if_neg (by rw [← HM.out]; omega), if_pos (by rw [← HM.out]; exact h16)]
      exact h
    clear h3
    go_wp2
    go_ret
    rw [H3.out]
    exact ⟨rfl, HB0.out⟩
  have h16' : ¬ (16 : Int) < (m : Int) := by omega
  have HR2 : Hid (R = if Oq.firstBad os ≠ 0 then Oq.firstBad os else if 1 < os.length ∧ os.any (fun o => decide (5 ≤ o.kind)) = true then 1 else 0) := by
    have h : R = if Oq.firstBad os ≠ 0 then Oq.firstBad os else if 1 < os.length ∧ os.any (fun o => decide (5 ≤ o.kind)) = true then 1 else 0 := by
      rw [HR.out]; unfold Oq.may; rw [if_neg (by rw [← HM.out]; omega), if_neg (by rw [← HM.out]; exact h16)]
    exact h
  clear h3
  go_wp2
  go_loopw [27] (fun i wr => ∃ k : Nat, k ≤ m ∧ i = .int .i64 (k : Int) ∧ Oq.firstBad (os.take k) = 0 ∧ Below w1.heap.size w1 wr) (fun i _ => ((m : Int) - intOf i).toNat)
  case atStart => exact ⟨0, Nat.zero_le _, rfl, rfl, Below.refl _ _⟩
  case round =>
    obtain ⟨k, hk, rfl, hany, hb⟩ := hrel
    have HA : Hid (Oq.firstBad (os.take k) = 0) := hany
    have HB1 : Hid (Below w1.heap.size w1 wr) := hb
    have HB : Hid (Below w.heap.size w wr) := HB0.out.trans (hb.mono HB0.out.size)
    obtain ⟨d0, d1, d2⟩ := HBX.out.below hb
    clear hany hb c0 c1 c2
    by_cases hlt : k < m
    · have hlt' : (k : Int) < (m : Int) := by omega
      have hkl : k < os.length := by rw [← HM.out]; exact hlt
      obtain ⟨g, b, c', hv', hcs⟩ := (HU.out.1.below HB.out).at (by omega)
      simp only [Value.slice.injEq] at hv'
      obtain ⟨rfl, hq, rfl⟩ := hv'
      obtain ⟨e0, e1, e2, e3, e4⟩ := hcs k os[k] (List.getElem?_eq_getElem hkl)
      have HK : Hid (os[k]? = some os[k] ∧ Fit os[k]) := ⟨List.getElem?_eq_getElem hkl, HU.out.2.2 _ (List.getElem_mem hkl)⟩
      generalize os[k] = o at *
      clear hcs hq hkl
      have HAL : Hid (Below wr.heap.size wr (wr.alloc (.cells #[.int .i64 o.kind, .string o.path, .string o.data, .int .i64 o.ver, .int .i64 o.flags] 38))) := (Below.refl _ wr).alloc (Nat.le_refl _) _
      go_wp2_with fail
      refine (good_spec o _ ((HST.out.below HB.out).below HAL.out) HK.out.2).mono ?_
      rintro e w2 ⟨rfl, hb⟩
      have hb2 : Below wr.heap.size wr w2 := HAL.out.trans (hb.mono HAL.out.size)
      have HB2 : Hid (Below w1.heap.size w1 w2) := HB1.out.trans (hb2.mono HB1.out.size)
      have HBW : Hid (Below w.heap.size w w2) := HB.out.trans (hb2.mono HB.out.size)
      clear hb hb2 HAL d0 d1 d2 e0 e1 e2 e3 e4
      obtain ⟨E, hE⟩ : ∃ E, E = Oq.good o := ⟨_, rfl⟩
      have HE : Hid (E = Oq.good o) := hE
      rw [← hE]
      clear hE
      have HF := Oq.firstBad_take HK.out.1 HA.out
      have HF : Hid ((Oq.good o ≠ 0 → Oq.firstBad os = Oq.good o) ∧ (Oq.good o = 0 → Oq.firstBad (os.take (k + 1)) = 0)) := HF
      by_cases hE0 : E = 0
      · have HA2 : Hid (Oq.firstBad (os.take (k + 1)) = 0) := by
          have h : Oq.firstBad (os.take (k + 1)) = 0 := HF.out.2 (by rw [← HE.out]; exact hE0)
          exact h
        subst hE0
        go_wp2
        go_roundw
        case rel => exact ⟨k + 1, by omega, by go_num, HA2.out, HB2.out⟩
        case measure => simp [intOf]; omega
      · have H3 : Hid (R = E) := by
          have h : R = E := by
            have hne : Oq.good o ≠ 0 := by rw [← HE.out]; exact hE0
            rw [HR2.out, HF.out.1 hne, if_pos hne, HE.out]
          exact h
        go_wp2
        go_ret
        rw [H3.out]
        exact ⟨rfl, HBW.out⟩
    · have hlt' : ¬ (k : Int) < (m : Int) := by omega
      have HFB : Hid (Oq.firstBad os = 0) := by
        have h2 := HA.out
        rw [List.take_of_length_le (by rw [← HM.out]; omega)] at h2
        exact h2
      have HR3 : Hid (R = if 1 < os.length ∧ os.any (fun o => decide (5 ≤ o.kind)) = true then 1 else 0) := by
        have h : R = if 1 < os.length ∧ os.any (fun o => decide (5 ≤ o.kind)) = true then 1 else 0 := by
          rw [HR2.out, HFB.out]
          rfl
        exact h
      by_cases hm1 : 1 < m
      · have hm1' : (1 : Int) < (m : Int) := by omega
        have HM1 : Hid (1 < os.length) := by
          have h : 1 < os.length := by rw [← HM.out]; exact hm1
          exact h
        go_wp2_with fail
        refine (containsFunc_any 55 _ HE.out reads_any _ os _ (HU.out.1.below HB.out) HU.out.2.1).mono ?_
        rintro e w2 ⟨rfl, hb⟩
        rw [any_reads HFB.out]
        have HBW : Hid (Below w.heap.size w w2) := HB.out.trans (hb.mono HB.out.size)
        clear hb d0 d1 d2
        obtain ⟨C, hC⟩ : ∃ C : Bool, C = os.any (fun o => decide (5 ≤ o.kind)) := ⟨_, rfl⟩
        have HR4 : Hid (R = if C = true then 1 else 0) := by
          have h : R = if C = true then 1 else 0 := by
            rw [HR3.out, hC]
            by_cases h2 : os.any (fun o => decide (5 ≤ o.kind)) = true
            · rw [if_pos ⟨HM1.out, h2⟩, if_pos h2]
            · rw [if_neg (fun h => h2 h.2), if_neg h2]
          exact h
        rw [← hC]
        clear hC
        cases C with
        | true =>
          have H3 : Hid (R = 1) := HR4.out
          go_wp2
          go_ret
          rw [H3.out]
          exact ⟨rfl, HBW.out⟩
        | false =>
          have H3 : Hid (R = 0) := HR4.out
          go_wp2
          go_ret
          rw [H3.out]
          exact ⟨rfl, HBW.out⟩
      · have hm1' : ¬ (1 : Int) < (m : Int) := by omega
        have H3 : Hid (R = 0) := by
          have h : R = 0 := by
            rw [HR3.out, if_neg]
            rintro ⟨h1, _⟩
            rw [← HM.out] at h1
            exact hm1 h1
          exact h
        clear hm1
        go_wp2
        go_ret
        rw [H3.out]
        exact ⟨rfl, HB.out⟩
end Go.Proofs.YtjimemnkmpapgaaGreatDoor
