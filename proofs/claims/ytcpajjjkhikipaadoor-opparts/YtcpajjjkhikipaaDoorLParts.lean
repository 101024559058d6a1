/- The walk of the statement OpParts, over what op's calls answer: it answers true. -/
import Derived.Test.YtcpajjjkhikipaaDoorLAwake5
namespace Go.Proofs.YtcpajjjkhikipaaDoor
open Go.RowKit

theorem firstBad_zero {os : List O} (h : ∀ o ∈ os, Oq.good o = 0) : Oq.firstBad os = 0 := by
  induction os with
  | nil => rfl
  | cons o os ih =>
    rw [Oq.firstBad, if_pos (h o (by simp))]
    exact ih (fun x hx => h x (by simp [hx]))

/-- What is asked of the numbers, and of each Op. -/
def upTo (s n : Int) (os : List O) (k : Nat) : Bool := decide (1 ≤ s ∧ 1 ≤ n ∧ 1 ≤ os.length ∧ os.length ≤ 16) && (os.take k).all fun o => decide (Oq.good o = 0) && (decide (os.length = 1) || decide (o.kind < 5))

theorem upTo_snoc {s n : Int} {os : List O} {k : Nat} {o : O} (h : os[k]? = some o) : upTo s n os (k + 1) = (upTo s n os k && (decide (Oq.good o = 0) && (decide (os.length = 1) || decide (o.kind < 5)))) := by
  unfold upTo
  rw [List.take_add_one, h, List.all_append]
  simp [Bool.and_assoc]

theorem upTo_all (s n : Int) (os : List O) : upTo s n os os.length = decide (Oq.may s n os = 0) := by
  unfold upTo
  rw [List.take_length]
  by_cases h1 : 1 ≤ s ∧ 1 ≤ n ∧ 1 ≤ os.length ∧ os.length ≤ 16
  · rw [decide_eq_true h1, Bool.true_and]
    have e : Oq.may s n os = if Oq.firstBad os ≠ 0 then Oq.firstBad os else if 1 < os.length ∧ os.any (fun o => decide (5 ≤ o.kind)) = true then 1 else 0 := by
      unfold Oq.may
      rw [if_neg (by omega), if_neg (by omega)]
    rw [e]
    by_cases h2 : Oq.firstBad os = 0
    · have hg := firstBad_none h2
      rw [if_neg (by simp [h2])]
      by_cases h3 : 1 < os.length ∧ os.any (fun o => decide (5 ≤ o.kind)) = true
      · rw [if_pos h3]
        obtain ⟨o, ho, hk⟩ := List.any_eq_true.1 h3.2
        have hk : 5 ≤ o.kind := of_decide_eq_true hk
        rw [show decide ((1 : Int) = 0) = false from rfl]
        apply List.all_eq_false.2
        exact ⟨o, ho, by simp; intro _; exact ⟨by omega, by omega⟩⟩
      · rw [if_neg h3, decide_eq_true rfl]
        apply List.all_eq_true.2
        intro o ho
        rw [decide_eq_true (hg o ho), Bool.true_and]
        by_cases h4 : os.length = 1
        · simp [h4]
        · have h5 : ¬ 5 ≤ o.kind := fun hk => h3 ⟨by omega, List.any_eq_true.2 ⟨o, ho, decide_eq_true hk⟩⟩
          simp [h4]
          omega
    · rw [if_pos h2, decide_eq_false h2]
      apply List.all_eq_false.2
      apply Classical.byContradiction
      intro hno
      apply h2
      apply firstBad_zero
      intro o ho
      apply Classical.byContradiction
      intro hg
      exact hno ⟨o, ho, by simp [hg]⟩
  · rw [decide_eq_false h1, Bool.false_and]
    symm
    apply decide_eq_false
    unfold Oq.may
    by_cases h2 : s < 1 ∨ n < 1 ∨ os.length = 0
    · rw [if_pos h2]; decide
    · rw [if_neg h2, if_pos (by omega)]; decide

theorem put_pos (s n : Int) (os : List O) : decide (0 < (Oq.put s n os).length) = decide (Oq.may s n os = 0) := by
  unfold Oq.put
  by_cases h : Oq.may s n os = 0
  · rw [if_pos h, decide_eq_true h]
    apply decide_eq_true
    unfold Oq.bytes
    simp only [List.length_append, Pk.be8_len]
    omega
  · rw [if_neg h, decide_eq_false h]
    rfl

set_option maxRecDepth 20000 in
set_option maxHeartbeats 4000000 in
theorem parts_any (hs : Specs) (s n : Int) (u : Value) (os : List O) (w : World) (hS : Pa.Std w) (hu : Ol w u os) (hl : os.length ≤ maxLen) (hf : ∀ o ∈ os, Fit o) :
    Calls Tryd.prog 4 #[.agg #[.int .i64 s, .int .i64 n, u]] w fun e w' => e = .returned (.bool true) ∧ Below w.heap.size w w' := by
  have HS : Hid Specs := hs
  have HW : Hid (Pa.Std w) := hS
  have HU : Hid (Ol w u os) := hu
  have HF : Hid (os.length ≤ maxLen ∧ ∀ o ∈ os, Fit o) := ⟨hl, hf⟩
  have HBX : Hid (Box3 (w.alloc (.cells #[.int .i64 s, .int .i64 n, u] 24)) w.heap.size s n u) := Box3.made w s n u _
  have HB0 : Hid (Below w.heap.size w (w.alloc (.cells #[.int .i64 s, .int .i64 n, u] 24))) := (Below.refl _ w).alloc (Nat.le_refl _) _
  obtain ⟨au, m, cu, rfl, hm, hq⟩ := hu
  have HM : Hid (m = os.length) := hm
  have hm1 : m ≤ 9223372036854775807 := by unfold maxLen at hl; omega
  clear hs hS hl hf hm hq
  go_enter Tryd.func4, Tryd.ntmps4
  go_wp2_with fail
  generalize w.alloc (.cells #[.int .i64 s, .int .i64 n, .slice au m cu] 24) = w1 at *
  refine (awake_any5 HS.out _ (HW.out.below HB0.out)).mono ?_
  rintro e w2 ⟨rfl, hb⟩
  have HB2 : Hid (Below w.heap.size w w2) := HB0.out.trans (hb.mono HB0.out.size)
  have HX2 : Hid (Box3 w2 w.heap.size s n (.slice au m cu)) := HBX.out.below hb
  clear hb
  obtain ⟨x0, x1, x2⟩ := HX2.out
  go_wp2_with fail
  refine (great_any _ os _ (HU.out.below HB2.out) HF.out.1).mono ?_
  rintro e w3 ⟨rfl, hb⟩
  have HB3 : Hid (Below w.heap.size w w3) := HB2.out.trans (hb.mono HB2.out.size)
  have HX3 : Hid (Box3 w3 w.heap.size s n (.slice au m cu)) := HX2.out.below hb
  clear hb x0 x1 x2
  cases hgr : greatB os with
  | true =>
    clear hgr
    go_wp2
    go_ret
    exact ⟨rfl, HB3.out⟩
  | false =>
    clear hgr
    obtain ⟨G0, hG0⟩ : ∃ G : Bool, G = upTo s n os 0 := ⟨_, rfl⟩
    have HG0 : Hid (G0 = upTo s n os 0) := hG0
    clear hG0
    go_upto_region 5 with fail
    go_cut [3] (fun c wx => c = .bool G0 ∧ wx = w3)
    case first =>
      obtain ⟨x0, x1, x2⟩ := HX3.out
      have HU0 : Hid (upTo s n os 0 = decide (1 ≤ s ∧ 1 ≤ n ∧ 1 ≤ m ∧ m ≤ 16)) := by
        have h : upTo s n os 0 = decide (1 ≤ s ∧ 1 ≤ n ∧ 1 ≤ m ∧ m ≤ 16) := by unfold upTo; rw [← HM.out]; simp
        exact h
      by_cases h1 : 1 ≤ s
      · by_cases h2 : 1 ≤ n
        · by_cases h3 : 1 ≤ m
          · have h3' : (1 : Int) ≤ (m : Int) := by omega
            by_cases h4 : m ≤ 16
            · have h4' : (m : Int) ≤ 16 := by omega
              have H5 : Hid (G0 = true) := by
                have h : G0 = true := by rw [HG0.out, HU0.out]; exact decide_eq_true ⟨h1, h2, h3, h4⟩
                exact h
              go_wp2
              go_meet
              case rel => exact ⟨by rw [H5.out], rfl⟩
            · have h4' : ¬ (m : Int) ≤ 16 := by omega
              have H5 : Hid (G0 = false) := by
                have h : G0 = false := by rw [HG0.out, HU0.out]; exact decide_eq_false (by omega)
                exact h
              go_wp2
              go_meet
              case rel => exact ⟨by rw [H5.out], rfl⟩
          · have h3' : ¬ (1 : Int) ≤ (m : Int) := by omega
            have H5 : Hid (G0 = false) := by
              have h : G0 = false := by rw [HG0.out, HU0.out]; exact decide_eq_false (by omega)
              exact h
            go_wp2
            go_meet
            case rel => exact ⟨by rw [H5.out], rfl⟩
        · have H5 : Hid (G0 = false) := by
            have h : G0 = false := by rw [HG0.out, HU0.out]; exact decide_eq_false (by omega)
            exact h
          go_wp2
          go_meet
          case rel => exact ⟨by rw [H5.out], rfl⟩
      · have H5 : Hid (G0 = false) := by
          have h : G0 = false := by rw [HG0.out, HU0.out]; exact decide_eq_false (by omega)
          exact h
        go_wp2
        go_meet
        case rel => exact ⟨by rw [H5.out], rfl⟩
    case rest =>
      obtain ⟨rfl, hw⟩ := hcut
      rw [hw]
      clear hw
      go_wp2
      go_loopw [3, 4] (fun g i wr => ∃ k : Nat, k ≤ m ∧ i = .int .i64 (k : Int) ∧ g = .bool (upTo s n os k) ∧ Below w3.heap.size w3 wr) (fun _ i _ => ((m : Int) - intOf i).toNat)
      case atStart => exact ⟨0, Nat.zero_le _, rfl, by rw [HG0.out], Below.refl _ _⟩
      case round =>
        obtain ⟨k, hk, rfl, rfl, hb⟩ := hrel
        have HB4 : Hid (Below w3.heap.size w3 wr) := hb
        have HB : Hid (Below w.heap.size w wr) := HB3.out.trans (hb.mono HB3.out.size)
        have HX : Hid (Box3 wr w.heap.size s n (.slice au m cu)) := HX3.out.below hb
        clear hb
        obtain ⟨x0, x1, x2⟩ := HX.out
        obtain ⟨G, hG⟩ : ∃ G : Bool, G = upTo s n os k := ⟨_, rfl⟩
        have HG : Hid (G = upTo s n os k) := hG
        rw [← hG]
        clear hG
        by_cases hlt : k < m
        · have hlt' : (k : Int) < (m : Int) := by omega
          have hkl : k < os.length := by rw [← HM.out]; exact hlt
          cases G with
          | false =>
            have HN : Hid (upTo s n os (k + 1) = false) := by
              have h : upTo s n os (k + 1) = false := by rw [upTo_snoc (List.getElem?_eq_getElem hkl), ← HG.out]; rfl
              exact h
            clear hkl
            go_wp2
            go_roundw
            case rel => exact ⟨k + 1, by omega, by go_num, by rw [HN.out], HB4.out⟩
            case measure => simp [intOf]; omega
          | true =>
            obtain ⟨g, b, c', hv', hcs⟩ := (HU.out.below HB.out).at (by omega)
            simp only [Value.slice.injEq] at hv'
            obtain ⟨rfl, hq, rfl⟩ := hv'
            obtain ⟨e0, e1, e2, e3, e4⟩ := hcs k os[k] (List.getElem?_eq_getElem hkl)
            have HK : Hid (os[k]? = some os[k] ∧ Fit os[k]) := ⟨List.getElem?_eq_getElem hkl, HF.out.2 _ (List.getElem_mem hkl)⟩
            have HUK := hcs k os[k] (List.getElem?_eq_getElem hkl)
            generalize os[k] = o at *
            have HN : Hid (upTo s n os (k + 1) = (decide (Oq.good o = 0) && (decide (m = 1) || decide (o.kind < 5)))) := by
              have h : upTo s n os (k + 1) = (decide (Oq.good o = 0) && (decide (m = 1) || decide (o.kind < 5))) := by rw [upTo_snoc HK.out.1, ← HG.out, ← HM.out]; rfl
              exact h
            clear hcs hq hkl HUK
            go_wp2_with fail
            refine (HS.out.good o _ (HW.out.below HB.out) HK.out.2).mono ?_
            rintro e w5 ⟨rfl, hb⟩
            have HB5 : Hid (Below w3.heap.size w3 w5) := HB4.out.trans (hb.mono HB4.out.size)
            have f0 := Below.kept hb e0
            have y2 := Below.kept hb x2
            obtain ⟨E, hE⟩ : ∃ E, E = Oq.good o := ⟨_, rfl⟩
            rw [← hE] at HN ⊢
            clear hb e0 e1 e2 e3 e4 x0 x1 x2 hE
            by_cases hE0 : E = 0
            · subst hE0
              by_cases hone : m = 1
              · have HN2 : Hid (upTo s n os (k + 1) = true) := by
                  have h : upTo s n os (k + 1) = true := by rw [HN.out]; simp [hone]
                  exact h
                have hone' : (m : Int) = 1 := by omega
                subst hone
                go_wp2
                go_roundw
                case rel => exact ⟨k + 1, by omega, by go_num, by rw [HN2.out], HB5.out⟩
                case measure => simp [intOf]; omega
              · have hone' : ¬ (m : Int) = 1 := by omega
                by_cases h5 : o.kind < 5
                · have HN2 : Hid (upTo s n os (k + 1) = true) := by
                    have h : upTo s n os (k + 1) = true := by rw [HN.out]; simp [h5]
                    exact h
                  clear hone
                  go_wp2
                  go_roundw
                  case rel => exact ⟨k + 1, by omega, by go_num, by rw [HN2.out], HB5.out⟩
                  case measure => simp [intOf]; omega
                · have HN2 : Hid (upTo s n os (k + 1) = false) := by
                    have h : upTo s n os (k + 1) = false := by rw [HN.out]; simp [h5, hone]
                    exact h
                  clear hone
                  go_wp2
                  go_roundw
                  case rel => exact ⟨k + 1, by omega, by go_num, by rw [HN2.out, decide_eq_false (by omega), beq_eq_false_iff_ne.2 hone']; rfl, HB5.out⟩
                  case measure => simp [intOf]; omega
            · have HN2 : Hid (upTo s n os (k + 1) = false) := by
                have h : upTo s n os (k + 1) = false := by rw [HN.out]; simp [hE0]
                exact h
              go_wp2
              go_roundw
              case rel => exact ⟨k + 1, by omega, by go_num, by rw [HN2.out], HB5.out⟩
              case measure => simp [intOf]; omega
        · have hlt' : ¬ (k : Int) < (m : Int) := by omega
          have HG2 : Hid (G = decide (Oq.may s n os = 0)) := by
            have h : G = decide (Oq.may s n os = 0) := by
              have e : k = os.length := by rw [← HM.out]; omega
              rw [HG.out, e, upTo_all]
            exact h
          go_wp2_with fail
          refine (HS.out.may s n _ os _ (HW.out.below HB.out) (HU.out.below HB.out) HF.out.1 HF.out.2).mono ?_
          rintro e w5 ⟨rfl, hb⟩
          have HB5 : Hid (Below w.heap.size w w5) := HB.out.trans (hb.mono HB.out.size)
          have HX5 : Hid (Box3 w5 w.heap.size s n (.slice au m cu)) := HX.out.below hb
          have HPL : Hid (decide (0 < (Oq.put s n os).length) = decide (Oq.may s n os = 0)) := put_pos s n os
          obtain ⟨M, hM⟩ : ∃ M, M = Oq.may s n os := ⟨_, rfl⟩
          rw [← hM] at HG2 HPL ⊢
          clear hb hM x0 x1 x2
          obtain ⟨x0, x1, x2⟩ := HX5.out
          by_cases hM0 : M = 0
          · have HG3 : Hid (G = true) := by
              have h : G = true := by rw [HG2.out]; exact decide_eq_true hM0
              exact h
            have hG3 := HG3.out
            subst hG3 hM0
            go_wp2_with fail
            refine (HS.out.put s n _ os _ (HW.out.below HB5.out) (HU.out.below HB5.out) HF.out.1 HF.out.2).mono ?_
            rintro e w6 ⟨v6, rfl, hbs, hb⟩
            have HB6 : Hid (Below w.heap.size w w6) := HB5.out.trans (hb.mono HB5.out.size)
            obtain ⟨a6, m6, c6, rfl, hm6, _⟩ := hbs
            have hm7 : (0 : Int) < (m6 : Int) := by
              have h := of_decide_eq_true (HPL.out.trans (by rfl))
              omega
            clear hb hm6
            go_wp2
            go_ret
            refine ⟨?_, HB6.out⟩
            show Ending.returned (.bool (decide (0 < m6))) = _
            rw [decide_eq_true (by omega)]
          · have HG3 : Hid (G = false) := by
              have h : G = false := by rw [HG2.out]; exact decide_eq_false hM0
              exact h
            have hG3 := HG3.out
            subst hG3
            go_wp2_with fail
            refine (HS.out.put s n _ os _ (HW.out.below HB5.out) (HU.out.below HB5.out) HF.out.1 HF.out.2).mono ?_
            rintro e w6 ⟨v6, rfl, hbs, hb⟩
            have HB6 : Hid (Below w.heap.size w w6) := HB5.out.trans (hb.mono HB5.out.size)
            obtain ⟨a6, m6, c6, rfl, hm6, _⟩ := hbs
            have hm7 : m6 = 0 := by
              have h := of_decide_eq_false (HPL.out.trans (decide_eq_false hM0))
              omega
            clear hb hm6
            subst hm7
            go_wp2
            go_ret
            refine ⟨?_, HB6.out⟩
            show Ending.returned (.bool (!(M == 0))) = _
            rw [beq_eq_false_iff_ne.2 hM0]
            rfl
end Go.Proofs.YtcpajjjkhikipaaDoor
