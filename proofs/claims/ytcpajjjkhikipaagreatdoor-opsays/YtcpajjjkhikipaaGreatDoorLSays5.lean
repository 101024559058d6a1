/- The walk of the statement OpSays, over what op's calls answer. -/
import Derived.Test.YtcpajjjkhikipaaGreatDoorLAwake5
import Derived.Test.YtcpajjjkhikipaaGreatDoorLTops
import Derived.Test.YtcpajjjkhikipaaGreatDoorRSameQ
import Derived.Test.YtcpajjjkhikipaaGreatDoorRRq
import Derived.Test.YtcpajjjkhikipaaGreatDoorRTops
import Derived.Test.YtcpajjjkhikipaaGreatDoorLibQ
import Derived.Test.YtcpajjjkhikipaaGreatDoorLibV
namespace Go.Proofs.YtcpajjjkhikipaaGreatDoor
open Go.RowKit

/-- An Op and two requests that were boxed. -/
structure B8 (w : World) (q0 q1 q2 : Nat) (o : O) (s n s' n' : Int) (u u' : Value) : Prop where
  b0 : Box5 w q0 o
  b1 : Box3 w q1 s n u
  b2 : Box3 w q2 s' n' u'
theorem B8.below {w w' : World} {q0 q1 q2 : Nat} {o : O} {s n s' n' : Int} {u u' : Value} (h : B8 w q0 q1 q2 o s n s' n' u u') (hb : Below w.heap.size w w') : B8 w' q0 q1 q2 o s n s' n' u u' := ⟨h.b0.below hb, h.b1.below hb, h.b2.below hb⟩
/-- The same, cell by cell. -/
def S8 (q0 q1 q2 : Nat) (o : O) (s n s' n' : Int) (u u' : Value) (w : World) : Prop :=
  (w.cell? ⟨q0, 0, none⟩ = some (.int .i64 o.kind) ∧ w.cell? ⟨q0, 1, none⟩ = some (.string o.path) ∧ w.cell? ⟨q0, 2, none⟩ = some (.string o.data) ∧ w.cell? ⟨q0, 3, none⟩ = some (.int .i64 o.ver) ∧ w.cell? ⟨q0, 4, none⟩ = some (.int .i64 o.flags)) ∧
  (w.cell? ⟨q1, 0, none⟩ = some (.int .i64 s) ∧ w.cell? ⟨q1, 1, none⟩ = some (.int .i64 n) ∧ w.cell? ⟨q1, 2, none⟩ = some u) ∧
  (w.cell? ⟨q2, 0, none⟩ = some (.int .i64 s') ∧ w.cell? ⟨q2, 1, none⟩ = some (.int .i64 n') ∧ w.cell? ⟨q2, 2, none⟩ = some u')
theorem S8.of {w : World} {q0 q1 q2 : Nat} {o : O} {s n s' n' : Int} {u u' : Value} (h : B8 w q0 q1 q2 o s n s' n' u u') : S8 q0 q1 q2 o s n s' n' u u' w := ⟨h.b0.all, h.b1.all, h.b2.all⟩

theorem refTop_all : RefTop := fun p w hp => by
  cases hg : Pl.goodB p.data.toList with
  | true => exact Pa.refTop_any p w hg
  | false =>
    refine (Pa.refTop_bad p w hp hg).mono ?_
    rintro e w' ⟨rfl, hb⟩
    refine ⟨_, rfl, ?_, hb⟩
    unfold Pl.top
    rw [Pl.bad_parts hg]
    rfl

theorem texts_eq : ∀ {a b : List ByteArray}, a.map (·.data.toList) = b.map (·.data.toList) → a = b
  | [], [], _ => rfl
  | [], _ :: _, h => by simp at h
  | _ :: _, [], h => by simp at h
  | x :: a, y :: b, h => by
    simp only [List.map_cons, List.cons.injEq] at h
    rw [Oq.bytes_ext h.1, texts_eq h.2]

/-- One that writes, by its number. -/
def wrB (o : O) : Bool := decide (1 ≤ o.kind) && decide (o.kind ≤ 3)
theorem wr_all (os : List O) : os.any wrB = Oq.writes os := by
  unfold Oq.writes
  congr 1
  funext o
  unfold wrB
  by_cases h1 : 1 ≤ o.kind
  · by_cases h3 : o.kind ≤ 3
    · have h : o.kind = 1 ∨ o.kind = 2 ∨ o.kind = 3 := by omega
      rcases h with h | h | h <;> simp [h]
    · rw [decide_eq_false h3, decide_eq_false (show ¬ o.kind = 1 by omega), decide_eq_false (show ¬ o.kind = 2 by omega), decide_eq_false (show ¬ o.kind = 3 by omega)]
      simp
  · rw [decide_eq_false h1, decide_eq_false (show ¬ o.kind = 1 by omega), decide_eq_false (show ¬ o.kind = 2 by omega), decide_eq_false (show ¬ o.kind = 3 by omega)]
    simp
theorem wr_more {os : List O} {k : Nat} {o : O} (h : os[k]? = some o) : (os.take (k + 1)).any wrB = ((os.take k).any wrB || wrB o) := by
  rw [List.take_add_one, h, List.any_append]
  simp

set_option maxRecDepth 20000 in
set_option maxHeartbeats 8000000 in
theorem says_any5 (hs : Specs) (ht : TopsSpec) (o : O) (s n s' n' : Int) (u u' : Value) (os os' : List O) (w : World) (hS : Pa.Std w) (ho : Fit o) (hu : Ol w u os) (hu' : Ol w u' os') (hl : os.length ≤ maxLen) (hl' : os'.length ≤ maxLen) (hf : ∀ o ∈ os, Fit o) (hf' : ∀ o ∈ os', Fit o) :
    Calls Tryz.prog 4 #[ov o, .agg #[.int .i64 s, .int .i64 n, u], .agg #[.int .i64 s', .int .i64 n', u']] w fun e w' => e = .returned (.bool true) ∧ Below w.heap.size w w' := by
  have HS : Hid (Specs ∧ TopsSpec) := ⟨hs, ht⟩
  have HW : Hid (Pa.Std w) := hS
  have HO : Hid (Fit o) := ho
  have HU : Hid (Ol w u os ∧ Ol w u' os') := ⟨hu, hu'⟩
  have HF : Hid (os.length ≤ maxLen ∧ os'.length ≤ maxLen ∧ (∀ o ∈ os, Fit o) ∧ ∀ o ∈ os', Fit o) := ⟨hl, hl', hf, hf'⟩
  have HSN : Hid (Sane os) := by
    have h : Sane os := fun o ho => ⟨(hf o ho).path, (hf o ho).data⟩
    exact h
  obtain ⟨au, m, cu, rfl, hm, hx⟩ := hu
  obtain ⟨au', m', cu', rfl, hm', hx'⟩ := hu'
  have HM : Hid (m = os.length) := hm
  have hm1 : m ≤ 9223372036854775807 := by unfold maxLen at hl; omega
  clear hs ht hS ho hl hl' hf hf' hm hx hm' hx'
  obtain ⟨E, hE⟩ : ∃ E, E = Oq.good o := ⟨_, rfl⟩
  have HE : Hid (E = Oq.good o) := hE
  obtain ⟨MY, hMY⟩ : ∃ E, E = Oq.may s n os := ⟨_, rfl⟩
  have HMY : Hid (MY = Oq.may s n os) := hMY
  clear hE hMY
  obtain ⟨q0, hq0⟩ : ∃ q, q = w.heap.size := ⟨_, rfl⟩
  obtain ⟨q1, hq1⟩ : ∃ q, q = w.heap.size + 1 := ⟨_, rfl⟩
  obtain ⟨q2, hq2⟩ : ∃ q, q = w.heap.size + 1 + 1 := ⟨_, rfl⟩
  obtain ⟨wA, hwA⟩ : ∃ x, x = w.alloc (.cells #[.int .i64 o.kind, .string o.path, .string o.data, .int .i64 o.ver, .int .i64 o.flags] 24) := ⟨_, rfl⟩
  obtain ⟨wB, hwB⟩ : ∃ x, x = wA.alloc (.cells #[.int .i64 s, .int .i64 n, .slice au m cu] 31) := ⟨_, rfl⟩
  obtain ⟨w1, hw1⟩ : ∃ x, x = wB.alloc (.cells #[.int .i64 s', .int .i64 n', .slice au' m' cu'] 31) := ⟨_, rfl⟩
  have hA : Below w.heap.size w wA := by rw [hwA]; exact (Below.refl _ w).alloc (Nat.le_refl _) _
  have hAs : wA.heap.size = w.heap.size + 1 := by rw [hwA, World.size_alloc]
  have hBA : Below wA.heap.size wA wB := by rw [hwB]; exact (Below.refl _ wA).alloc (Nat.le_refl _) _
  have hBs : wB.heap.size = w.heap.size + 1 + 1 := by rw [hwB, World.size_alloc, hAs]
  have h1B : Below wB.heap.size wB w1 := by rw [hw1]; exact (Below.refl _ wB).alloc (Nat.le_refl _) _
  have HB1 : Hid (Below w.heap.size w w1) := (hA.trans (hBA.mono (by omega))).trans (h1B.mono (by omega))
  have HX1 : Hid (B8 w1 q0 q1 q2 o s n s' n' (.slice au m cu) (.slice au' m' cu')) := by
    refine ⟨?_, ?_, ?_⟩
    · have h : Box5 wA q0 o := by rw [hwA, hq0]; exact Box5.made w o _
      exact (h.below hBA).below h1B
    · have h : Box3 wB q1 s n (.slice au m cu) := by rw [hwB, hq1, ← hAs]; exact Box3.made wA s n _ _
      exact h.below h1B
    · rw [hw1, hq2, ← hBs]
      exact Box3.made wB s' n' _ _
  clear hA hAs hBA hBs h1B
  unfold ov
  go_enter Tryz.func4, Tryz.ntmps4
  go_wp2_with fail
  rw [← hq2, ← hq1, ← hq0, ← hwA, ← hwB, ← hw1]
  have HQ : Hid (q0 = w.heap.size) := hq0
  clear hq0 hq1 hq2 hwA hwB hw1
  refine (awake_any5 HS.out.1 _ (HW.out.below HB1.out)).mono ?_
  rintro e w2 ⟨rfl, hb⟩
  have HB2 : Hid (Below w.heap.size w w2) := HB1.out.trans (hb.mono HB1.out.size)
  have HX2 : Hid (B8 w2 q0 q1 q2 o s n s' n' (.slice au m cu) (.slice au' m' cu')) := HX1.out.below hb
  clear hb
  obtain ⟨c0, c1, c2, c3, c4⟩ := HX2.out.b0
  have hal : Below w2.heap.size w2 (w2.alloc (.cells #[.int .i64 o.kind, .string o.path, .string o.data, .int .i64 o.ver, .int .i64 o.flags] 24)) := (Below.refl _ w2).alloc (Nat.le_refl _) _
  have HO3 : Hid (Ol (w2.alloc (.cells #[.int .i64 o.kind, .string o.path, .string o.data, .int .i64 o.ver, .int .i64 o.flags] 24)) (.slice (some ⟨w2.heap.size, 0, none⟩) 1 1) [o]) := Ol.one w2 o _
  have HB3 : Hid (Below w.heap.size w (w2.alloc (.cells #[.int .i64 o.kind, .string o.path, .string o.data, .int .i64 o.ver, .int .i64 o.flags] 24))) := HB2.out.trans (hal.mono HB2.out.size)
  have HX3 : Hid (B8 (w2.alloc (.cells #[.int .i64 o.kind, .string o.path, .string o.data, .int .i64 o.ver, .int .i64 o.flags] 24)) q0 q1 q2 o s n s' n' (.slice au m cu) (.slice au' m' cu')) := HX2.out.below hal
  clear hal
  go_wp2_with fail
  clear c0 c1 c2 c3 c4
  generalize w2.alloc (.cells #[.int .i64 o.kind, .string o.path, .string o.data, .int .i64 o.ver, .int .i64 o.flags] 24) = w3 at *
  refine (great_any _ [o] _ HO3.out (by unfold maxLen; simp)).mono ?_
  rintro e w4 ⟨rfl, hb⟩
  have HB4 : Hid (Below w.heap.size w w4) := HB3.out.trans (hb.mono HB3.out.size)
  have HX4 : Hid (B8 w4 q0 q1 q2 o s n s' n' (.slice au m cu) (.slice au' m' cu')) := HX3.out.below hb
  clear hb
  cases hgr : greatB [o] with
  | true =>
    clear hgr
    go_wp2
    go_ret
    exact ⟨rfl, HB4.out⟩
  | false =>
    clear hgr
    obtain ⟨x0, x1, x2⟩ := HX4.out.b1
    go_wp2_with fail
    clear x0 x1 x2
    refine (great_any _ os _ (HU.out.1.below HB4.out) HF.out.1).mono ?_
    rintro e w5 ⟨rfl, hb⟩
    have HB5 : Hid (Below w.heap.size w w5) := HB4.out.trans (hb.mono HB4.out.size)
    have HX5 : Hid (B8 w5 q0 q1 q2 o s n s' n' (.slice au m cu) (.slice au' m' cu')) := HX4.out.below hb
    clear hb
    cases hgr : greatB os with
    | true =>
      clear hgr
      go_wp2
      go_ret
      exact ⟨rfl, HB5.out⟩
    | false =>
      have HL20 : Hid (os.length ≤ 20) := great_small hgr
      clear hgr
      obtain ⟨x0, x1, x2⟩ := HX5.out.b2
      go_wp2_with fail
      clear x0 x1 x2
      refine (great_any _ os' _ (HU.out.2.below HB5.out) HF.out.2.1).mono ?_
      rintro e w6 ⟨rfl, hb⟩
      have HB6 : Hid (Below w.heap.size w w6) := HB5.out.trans (hb.mono HB5.out.size)
      have HX6 : Hid (B8 w6 q0 q1 q2 o s n s' n' (.slice au m cu) (.slice au' m' cu')) := HX5.out.below hb
      clear hb
      cases hgr : greatB os' with
      | true =>
        clear hgr
        go_wp2
        go_ret
        exact ⟨rfl, HB6.out⟩
      | false =>
        clear hgr
        go_wp2
        go_loopw [7, 8] (fun f i wr => ∃ k : Nat, k ≤ m ∧ i = .int .i64 (k : Int) ∧ f = .bool ((os.take k).any wrB) ∧ wr = w6) (fun _ i _ => ((m : Int) - intOf i).toNat)
        case atStart => exact ⟨0, Nat.zero_le _, rfl, rfl, rfl⟩
        case round =>
          obtain ⟨k, hk, rfl, hf, hw⟩ := hrel
          subst hw
          obtain ⟨C, hC⟩ : ∃ C, C = (os.take k).any wrB := ⟨_, rfl⟩
          have HC : Hid (C = (os.take k).any wrB) := hC
          rw [← hC] at hf
          subst hf
          clear hC
          obtain ⟨x0, x1, x2⟩ := HX6.out.b1
          by_cases hlt : k < m
          · have hlt' : (k : Int) < (m : Int) := by omega
            have hkl : k < os.length := by rw [← HM.out]; exact hlt
            obtain ⟨g, b, c', hv', hcs⟩ := (HU.out.1.below HB6.out).at (by omega)
            simp only [Value.slice.injEq] at hv'
            obtain ⟨rfl, hq, rfl⟩ := hv'
            obtain ⟨e0, _, _, _, _⟩ := hcs k os[k] (List.getElem?_eq_getElem hkl)
            have HK : Hid (os[k]? = some os[k]) := List.getElem?_eq_getElem hkl
            generalize os[k] = p at *
            clear hcs hq hkl
            cases C with
            | true =>
              have H3 : Hid ((os.take (k + 1)).any wrB = true) := by
                have h : (os.take (k + 1)).any wrB = true := by rw [wr_more HK.out, ← HC.out]; rfl
                exact h
              go_wp2
              go_roundw
              case rel => exact ⟨k + 1, by omega, by go_num, by rw [H3.out], trivial⟩
              case measure => simp [intOf]; omega
            | false =>
              by_cases h1 : 1 ≤ p.kind
              · by_cases h3 : p.kind ≤ 3
                · have H3 : Hid ((os.take (k + 1)).any wrB = true) := by
                    have h : (os.take (k + 1)).any wrB = true := by rw [wr_more HK.out, ← HC.out]; unfold wrB; rw [decide_eq_true h1, decide_eq_true h3]; rfl
                    exact h
                  go_wp2
                  go_roundw
                  case rel => exact ⟨k + 1, by omega, by go_num, by rw [H3.out], trivial⟩
                  case measure => simp [intOf]; omega
                · have H3 : Hid ((os.take (k + 1)).any wrB = false) := by
                    have h : (os.take (k + 1)).any wrB = false := by rw [wr_more HK.out, ← HC.out]; unfold wrB; rw [decide_eq_true h1, decide_eq_false h3]; rfl
                    exact h
                  go_wp2
                  go_roundw
                  case rel => exact ⟨k + 1, by omega, by go_num, by rw [H3.out], trivial⟩
                  case measure => simp [intOf]; omega
              · have H3 : Hid ((os.take (k + 1)).any wrB = false) := by
                  have h : (os.take (k + 1)).any wrB = false := by rw [wr_more HK.out, ← HC.out]; unfold wrB; rw [decide_eq_false h1]; rfl
                  exact h
                go_wp2
                go_roundw
                case rel => exact ⟨k + 1, by omega, by go_num, by rw [H3.out], trivial⟩
                case measure => simp [intOf]; omega
          · have hlt' : ¬ (k : Int) < (m : Int) := by omega
            have HWR : Hid (C = Oq.writes os) := by
              have h : C = Oq.writes os := by rw [HC.out, List.take_of_length_le (by rw [← HM.out]; omega), wr_all]
              exact h
            go_wp2_with fail
            clear x0 x1 x2
            have HB7 : Hid (Below w.heap.size w wr.drew) := HB6.out.drew
            have HX7 : Hid (B8 wr.drew q0 q1 q2 o s n s' n' (.slice au m cu) (.slice au' m' cu')) := HX6.out.below (Below.refl _ wr).drew
            refine wp_region_held_drew (S := (S8 q0 q1 q2 o s n s' n' (.slice au m cu) (.slice au' m' cu'))) (by kernel_rfl) (S8.of HX7.out) (fun hHeld => ?_)
            generalize wr.drew = w7 at *
            refine' take_at (i := 0) (d := 50) (v := _) rfl rfl (by kernel_rfl) (by kernel_rfl) (by kernel_rfl) (fun _ _ _ h => h) (Or.inl ⟨by rfl, ?h0⟩) (by assumption) ?_
            case h0 => intro w hSw; unfold S8 at hSw; go_simp; with_reducible rfl
            simp only [List.setIfInBounds_toArray, List.set_cons_zero, List.set_cons_succ]
            refine' take_at (i := 2) (d := 52) (v := _) rfl rfl (by kernel_rfl) (by kernel_rfl) (by kernel_rfl) (fun _ _ _ h => h) (Or.inl ⟨by rfl, ?h2⟩) (by assumption) ?_
            case h2 => intro w hSw; unfold S8 at hSw; go_simp; with_reducible rfl
            simp only [List.setIfInBounds_toArray, List.set_cons_zero, List.set_cons_succ]
            refine wpAnyH_ready (rs := [1]) (by kernel_rfl) (by simp) ?_
            refine AllReadyH.cons (o := _) rfl (fun K hK => ?_) AllReadyH.nil
            go_simp
            refine (HS.out.1.good o _ (HW.out.below HB7.out) HO.out).mono ?_
            rintro e wa ⟨rfl, hb⟩
            rw [← HE.out]
            have HBa : Hid (Below w.heap.size w wa) := HB7.out.trans (hb.mono HB7.out.size)
            have HXa : Hid (B8 wa q0 q1 q2 o s n s' n' (.slice au m cu) (.slice au' m' cu')) := HX7.out.below hb
            clear hb
            simp only []
            refine hK.out _ _ (S8.of HXa.out) (fun hHeld2 => ?_)
            clear hK K hHeld
            refine wpAnyH_ready (rs := [3]) (by kernel_rfl) (by simp) ?_
            refine AllReadyH.cons (o := _) rfl (fun K hK => ?_) AllReadyH.nil
            go_simp
            refine (refOp_any o _ HO.out.path HO.out.data).mono ?_
            rintro e wb ⟨rfl, hb⟩
            rw [← HE.out]
            have HBb : Hid (Below w.heap.size w wb) := HBa.out.trans (hb.mono HBa.out.size)
            have HXb : Hid (B8 wb q0 q1 q2 o s n s' n' (.slice au m cu) (.slice au' m' cu')) := HXa.out.below hb
            clear hb
            simp only []
            refine hK.out _ _ (S8.of HXb.out) (fun hHeld => ?_)
            clear hK K hHeld2
            refine' take_at (i := 4) (d := 54) (v := _) rfl rfl (by kernel_rfl) (by kernel_rfl) (by kernel_rfl) (fun _ _ _ h => h) (Or.inl ⟨by rfl, ?h4⟩) (by assumption) ?_
            case h4 => intro w hSw; unfold S8 at hSw; go_simp; with_reducible rfl
            simp only [List.setIfInBounds_toArray, List.set_cons_zero, List.set_cons_succ]
            refine' take_at (i := 5) (d := 55) (v := _) rfl rfl (by kernel_rfl) (by kernel_rfl) (by kernel_rfl) (fun _ _ _ h => h) (Or.inl ⟨by rfl, ?h5⟩) (by assumption) ?_
            case h5 => intro w hSw; unfold S8 at hSw; go_simp; with_reducible rfl
            simp only [List.setIfInBounds_toArray, List.set_cons_zero, List.set_cons_succ]
            refine' take_at (i := 6) (d := 56) (v := _) rfl rfl (by kernel_rfl) (by kernel_rfl) (by kernel_rfl) (fun _ _ _ h => h) (Or.inl ⟨by rfl, ?h6⟩) (by assumption) ?_
            case h6 => intro w hSw; unfold S8 at hSw; go_simp; with_reducible rfl
            simp only [List.setIfInBounds_toArray, List.set_cons_zero, List.set_cons_succ]
            refine' take_at (i := 8) (d := 58) (v := _) rfl rfl (by kernel_rfl) (by kernel_rfl) (by kernel_rfl) (fun _ _ _ h => h) (Or.inl ⟨by rfl, ?h8⟩) (by assumption) ?_
            case h8 => intro w hSw; unfold S8 at hSw; go_simp; with_reducible rfl
            simp only [List.setIfInBounds_toArray, List.set_cons_zero, List.set_cons_succ]
            refine wpAnyH_ready (rs := [7]) (by kernel_rfl) (by simp) ?_
            refine AllReadyH.cons (o := _) rfl (fun K hK => ?_) AllReadyH.nil
            go_simp
            refine (HS.out.1.may s n _ os _ (HW.out.below HBb.out) (HU.out.1.below HBb.out) HF.out.1 HF.out.2.2.1).mono ?_
            rintro e wc ⟨rfl, hb⟩
            rw [← HMY.out]
            have HBc : Hid (Below w.heap.size w wc) := HBb.out.trans (hb.mono HBb.out.size)
            have HXc : Hid (B8 wc q0 q1 q2 o s n s' n' (.slice au m cu) (.slice au' m' cu')) := HXb.out.below hb
            clear hb
            simp only []
            refine hK.out _ _ (S8.of HXc.out) (fun hHeld2 => ?_)
            clear hK K hHeld
            refine wpAnyH_ready (rs := [9]) (by kernel_rfl) (by simp) ?_
            refine AllReadyH.cons (o := _) rfl (fun K hK => ?_) AllReadyH.nil
            go_simp
            refine (rq_any s n _ os _ (HU.out.1.below HBc.out)).mono ?_
            rintro e wd ⟨rfl, hb⟩
            have HBd : Hid (Below w.heap.size w wd) := HBc.out.trans (hb.mono HBc.out.size)
            have HXd : Hid (B8 wd q0 q1 q2 o s n s' n' (.slice au m cu) (.slice au' m' cu')) := HXc.out.below hb
            clear hb
            simp only []
            refine hK.out _ _ (S8.of HXd.out) (fun hHeld => ?_)
            clear hK K hHeld2
            refine wpAnyH_ready (rs := [10]) (by kernel_rfl) (by simp) ?_
            refine AllReadyH.cons (o := _) rfl (fun K hK => ?_) AllReadyH.nil
            go_simp
            refine (refMay_any s n _ os _ (HU.out.1.below HBd.out) HSN.out).mono ?_
            rintro e we ⟨rfl, hb⟩
            rw [← HMY.out]
            have HBe : Hid (Below w.heap.size w we) := HBd.out.trans (hb.mono HBd.out.size)
            have HXe : Hid (B8 we q0 q1 q2 o s n s' n' (.slice au m cu) (.slice au' m' cu')) := HXd.out.below hb
            clear hb
            simp only []
            refine hK.out _ _ (S8.of HXe.out) (fun hHeld2 => ?_)
            clear hK K hHeld
            refine' take_at (i := 11) (d := 61) (v := _) rfl rfl (by kernel_rfl) (by kernel_rfl) (by kernel_rfl) (fun _ _ _ h => h) (Or.inl ⟨by rfl, ?h11⟩) (by assumption) ?_
            case h11 => intro w hSw; unfold S8 at hSw; go_simp; with_reducible rfl
            simp only [List.setIfInBounds_toArray, List.set_cons_zero, List.set_cons_succ]
            refine' take_at (i := 12) (d := 62) (v := _) rfl rfl (by kernel_rfl) (by kernel_rfl) (by kernel_rfl) (fun _ _ _ h => h) (Or.inl ⟨by rfl, ?h12⟩) (by assumption) ?_
            case h12 => intro w hSw; unfold S8 at hSw; go_simp; with_reducible rfl
            simp only [List.setIfInBounds_toArray, List.set_cons_zero, List.set_cons_succ]
            refine' take_at (i := 13) (d := 63) (v := _) rfl rfl (by kernel_rfl) (by kernel_rfl) (by kernel_rfl) (fun _ _ _ h => h) (Or.inl ⟨by rfl, ?h13⟩) (by assumption) ?_
            case h13 => intro w hSw; unfold S8 at hSw; go_simp; with_reducible rfl
            simp only [List.setIfInBounds_toArray, List.set_cons_zero, List.set_cons_succ]
            refine' take_at (i := 14) (d := 64) (v := _) rfl rfl (by kernel_rfl) (by kernel_rfl) (by kernel_rfl) (fun _ _ _ h => h) (Or.inl ⟨by rfl, ?h14⟩) (by assumption) ?_
            case h14 => intro w hSw; unfold S8 at hSw; go_simp; with_reducible rfl
            simp only [List.setIfInBounds_toArray, List.set_cons_zero, List.set_cons_succ]
            refine' take_at (i := 16) (d := 66) (v := _) rfl rfl (by kernel_rfl) (by kernel_rfl) (by kernel_rfl) (fun _ _ _ h => h) (Or.inl ⟨by rfl, ?h16⟩) (by assumption) ?_
            case h16 => intro w hSw; unfold S8 at hSw; go_simp; with_reducible rfl
            simp only [List.setIfInBounds_toArray, List.set_cons_zero, List.set_cons_succ]
            refine wpAnyH_ready (rs := [15]) (by kernel_rfl) (by simp) ?_
            refine AllReadyH.cons (o := _) rfl (fun K hK => ?_) AllReadyH.nil
            go_simp
            refine (HS.out.1.writes s n _ os _ (HU.out.1.below HBe.out) HF.out.1).mono ?_
            rintro e wf ⟨rfl, hb⟩
            rw [← HWR.out]
            have HBf : Hid (Below w.heap.size w wf) := HBe.out.trans (hb.mono HBe.out.size)
            have HXf : Hid (B8 wf q0 q1 q2 o s n s' n' (.slice au m cu) (.slice au' m' cu')) := HXe.out.below hb
            clear hb
            simp only []
            refine hK.out _ _ (S8.of HXf.out) (fun hHeld => ?_)
            clear hK K hHeld2
            refine' take_at (i := 17) (d := 67) (v := _) rfl rfl (by kernel_rfl) (by kernel_rfl) (by kernel_rfl) (fun _ _ _ h => h) (Or.inl ⟨by rfl, ?h17⟩) (by assumption) ?_
            case h17 => intro w hSw; unfold S8 at hSw; go_simp; with_reducible rfl
            simp only [List.setIfInBounds_toArray, List.set_cons_zero, List.set_cons_succ]
            refine' take_at (i := 18) (d := 68) (v := _) rfl rfl (by kernel_rfl) (by kernel_rfl) (by kernel_rfl) (fun _ _ _ h => h) (Or.inl ⟨by rfl, ?h18⟩) (by assumption) ?_
            case h18 => intro w hSw; unfold S8 at hSw; go_simp; with_reducible rfl
            simp only [List.setIfInBounds_toArray, List.set_cons_zero, List.set_cons_succ]
            refine' take_at (i := 19) (d := 69) (v := _) rfl rfl (by kernel_rfl) (by kernel_rfl) (by kernel_rfl) (fun _ _ _ h => h) (Or.inl ⟨by rfl, ?h19⟩) (by assumption) ?_
            case h19 => intro w hSw; unfold S8 at hSw; go_simp; with_reducible rfl
            simp only [List.setIfInBounds_toArray, List.set_cons_zero, List.set_cons_succ]
            refine' take_at (i := 20) (d := 70) (v := _) rfl rfl (by kernel_rfl) (by kernel_rfl) (by kernel_rfl) (fun _ _ _ h => h) (Or.inl ⟨by rfl, ?h20⟩) (by assumption) ?_
            case h20 => intro w hSw; unfold S8 at hSw; go_simp; with_reducible rfl
            simp only [List.setIfInBounds_toArray, List.set_cons_zero, List.set_cons_succ]
            refine' take_at (i := 21) (d := 71) (v := _) rfl rfl (by kernel_rfl) (by kernel_rfl) (by kernel_rfl) (fun _ _ _ h => h) (Or.inl ⟨by rfl, ?h21⟩) (by assumption) ?_
            case h21 => intro w hSw; unfold S8 at hSw; go_simp; with_reducible rfl
            simp only [List.setIfInBounds_toArray, List.set_cons_zero, List.set_cons_succ]
            refine' take_at (i := 23) (d := 73) (v := _) rfl rfl (by kernel_rfl) (by kernel_rfl) (by kernel_rfl) (fun _ _ _ h => h) (Or.inl ⟨by rfl, ?h23⟩) (by assumption) ?_
            case h23 => intro w hSw; unfold S8 at hSw; go_simp; with_reducible rfl
            simp only [List.setIfInBounds_toArray, List.set_cons_zero, List.set_cons_succ]
            refine' take_at (i := 25) (d := 75) (v := _) rfl rfl (by kernel_rfl) (by kernel_rfl) (by kernel_rfl) (fun _ _ _ h => h) (Or.inl ⟨by rfl, ?h25⟩) (by assumption) ?_
            case h25 => intro w hSw; unfold S8 at hSw; go_simp; with_reducible rfl
            simp only [List.setIfInBounds_toArray, List.set_cons_zero, List.set_cons_succ]
            refine wpAnyH_ready (rs := [22]) (by kernel_rfl) (by simp) ?_
            refine AllReadyH.cons (o := _) rfl (fun K hK => ?_) AllReadyH.nil
            go_simp
            refine (HS.out.1.same s n s' n' _ _ os os' _ (HU.out.1.below HBf.out) (HU.out.2.below HBf.out) HF.out.1 HF.out.2.1).mono ?_
            rintro e wg ⟨R1, rfl, hR1, hb⟩
            have HR1 : Hid (R1 = true ↔ s = s' ∧ n = n' ∧ os = os') := hR1
            have HBg : Hid (Below w.heap.size w wg) := HBf.out.trans (hb.mono HBf.out.size)
            have HXg : Hid (B8 wg q0 q1 q2 o s n s' n' (.slice au m cu) (.slice au' m' cu')) := HXf.out.below hb
            clear hb hR1
            simp only []
            refine hK.out _ _ (S8.of HXg.out) (fun hHeld2 => ?_)
            clear hK K hHeld
            refine wpAnyH_ready (rs := [24]) (by kernel_rfl) (by simp) ?_
            refine AllReadyH.cons (o := _) rfl (fun K hK => ?_) AllReadyH.nil
            go_simp
            refine (rq_any s n _ os _ (HU.out.1.below HBg.out)).mono ?_
            rintro e wh ⟨rfl, hb⟩
            have HBh : Hid (Below w.heap.size w wh) := HBg.out.trans (hb.mono HBg.out.size)
            have HXh : Hid (B8 wh q0 q1 q2 o s n s' n' (.slice au m cu) (.slice au' m' cu')) := HXg.out.below hb
            clear hb
            simp only []
            refine hK.out _ _ (S8.of HXh.out) (fun hHeld => ?_)
            clear hK K hHeld2
            refine wpAnyH_ready (rs := [26]) (by kernel_rfl) (by simp) ?_
            refine AllReadyH.cons (o := _) rfl (fun K hK => ?_) AllReadyH.nil
            go_simp
            refine (rq_any s' n' _ os' _ (HU.out.2.below HBh.out)).mono ?_
            rintro e wi ⟨rfl, hb⟩
            have HBi : Hid (Below w.heap.size w wi) := HBh.out.trans (hb.mono HBh.out.size)
            have HXi : Hid (B8 wi q0 q1 q2 o s n s' n' (.slice au m cu) (.slice au' m' cu')) := HXh.out.below hb
            clear hb
            simp only []
            refine hK.out _ _ (S8.of HXi.out) (fun hHeld2 => ?_)
            clear hK K hHeld
            refine wpAnyH_ready (rs := [27]) (by kernel_rfl) (by simp) ?_
            refine AllReadyH.cons (o := _) rfl (fun K hK => ?_) AllReadyH.nil
            go_simp
            refine (refSameQ_any s n s' n' _ _ os os' _ (HU.out.1.below HBi.out) (HU.out.2.below HBi.out) HF.out.1).mono ?_
            rintro e wj ⟨R2, rfl, hR2, hb⟩
            have hRR : R2 = R1 := Bool.eq_iff_iff.2 (hR2.trans HR1.out.symm)
            subst hRR
            have HBj : Hid (Below w.heap.size w wj) := HBi.out.trans (hb.mono HBi.out.size)
            have HXj : Hid (B8 wj q0 q1 q2 o s n s' n' (.slice au m cu) (.slice au' m' cu')) := HXi.out.below hb
            clear hb hR2
            simp only []
            refine hK.out _ _ (S8.of HXj.out) (fun hHeld => ?_)
            clear hK K hHeld2
            refine' take_at (i := 28) (d := 78) (v := _) rfl rfl (by kernel_rfl) (by kernel_rfl) (by kernel_rfl) (fun _ _ _ h => h) (Or.inl ⟨by rfl, ?h28⟩) (by assumption) ?_
            case h28 => intro w hSw; unfold S8 at hSw; go_simp; with_reducible rfl
            simp only [List.setIfInBounds_toArray, List.set_cons_zero, List.set_cons_succ]
            refine' take_at (i := 29) (d := 79) (v := _) rfl rfl (by kernel_rfl) (by kernel_rfl) (by kernel_rfl) (fun _ _ _ h => h) (Or.inl ⟨by rfl, ?h29⟩) (by assumption) ?_
            case h29 => intro w hSw; unfold S8 at hSw; go_simp; with_reducible rfl
            simp only [List.setIfInBounds_toArray, List.set_cons_zero, List.set_cons_succ]
            refine' take_at (i := 30) (d := 80) (v := _) rfl rfl (by kernel_rfl) (by kernel_rfl) (by kernel_rfl) (fun _ _ _ h => h) (Or.inl ⟨by rfl, ?h30⟩) (by assumption) ?_
            case h30 => intro w hSw; unfold S8 at hSw; go_simp; with_reducible rfl
            simp only [List.setIfInBounds_toArray, List.set_cons_zero, List.set_cons_succ]
            refine' take_at (i := 31) (d := 81) (v := _) rfl rfl (by kernel_rfl) (by kernel_rfl) (by kernel_rfl) (fun _ _ _ h => h) (Or.inl ⟨by rfl, ?h31⟩) (by assumption) ?_
            case h31 => intro w hSw; unfold S8 at hSw; go_simp; with_reducible rfl
            simp only [List.setIfInBounds_toArray, List.set_cons_zero, List.set_cons_succ]
            refine' take_at (i := 32) (d := 82) (v := _) rfl rfl (by kernel_rfl) (by kernel_rfl) (by kernel_rfl) (fun _ _ _ h => h) (Or.inl ⟨by rfl, ?h32⟩) (by assumption) ?_
            case h32 => intro w hSw; unfold S8 at hSw; go_simp; with_reducible rfl
            simp only [List.setIfInBounds_toArray, List.set_cons_zero, List.set_cons_succ]
            refine' take_at (i := 34) (d := 84) (v := _) rfl rfl (by kernel_rfl) (by kernel_rfl) (by kernel_rfl) (fun _ _ _ h => h) (Or.inl ⟨by rfl, ?h34⟩) (by assumption) ?_
            case h34 => intro w hSw; unfold S8 at hSw; go_simp; with_reducible rfl
            simp only [List.setIfInBounds_toArray, List.set_cons_zero, List.set_cons_succ]
            refine' take_at (i := 35) (d := 85) (v := _) rfl rfl (by kernel_rfl) (by kernel_rfl) (by kernel_rfl) (fun _ _ _ h => h) (Or.inl ⟨by rfl, ?h35⟩) (by assumption) ?_
            case h35 => intro w hSw; unfold S8 at hSw; go_simp; with_reducible rfl
            simp only [List.setIfInBounds_toArray, List.set_cons_zero, List.set_cons_succ]
            refine wpAnyH_ready (rs := [33]) (by kernel_rfl) (by simp) ?_
            refine AllReadyH.cons (o := _) rfl (fun K hK => ?_) AllReadyH.nil
            go_simp
            refine (HS.out.2 _ os _ (HW.out.below HBj.out) (HU.out.1.below HBj.out) (by have := HL20.out; omega) HF.out.2.2.1).mono ?_
            rintro e wk ⟨vt, ts, rfl, hss, htops, hb⟩
            have HSk : Hid (Ss wk vt ts ∧ Ts.Tops os (ts.map (·.data.toList))) := ⟨hss, htops⟩
            have HBk : Hid (Below w.heap.size w wk) := HBj.out.trans (hb.mono HBj.out.size)
            have HXk : Hid (B8 wk q0 q1 q2 o s n s' n' (.slice au m cu) (.slice au' m' cu')) := HXj.out.below hb
            clear hb hss htops
            simp only []
            refine hK.out _ _ (S8.of HXk.out) (fun hHeld2 => ?_)
            clear hK K hHeld
            refine wpAnyH_ready (rs := [36]) (by kernel_rfl) (by simp) ?_
            refine AllReadyH.cons (o := _) rfl (fun K hK => ?_) AllReadyH.nil
            go_simp
            refine (refTops_any refTop_all _ os _ (HU.out.1.below HBk.out) (by have := HL20.out; omega) (fun x hx => (HSN.out x hx).1)).mono ?_
            rintro e wl ⟨vr, tr, rfl, hss, htops, hb⟩
            have HTR : Hid (tr = ts) := by
              have h : tr = ts := texts_eq (Ts.rises_eq htops.1 HSk.out.2.1 (fun x => (htops.2 x).trans (HSk.out.2.2 x).symm))
              exact h
            have HSl : Hid (Ss wl vt ts ∧ Ss wl vr ts ∧ ts.length ≤ 1000) := ⟨HSk.out.1.below hb, by rw [← HTR.out]; exact hss, by have h1 := Ts.tops_len HSk.out.2; rw [List.length_map] at h1; have := HL20.out; omega⟩
            have HBl : Hid (Below w.heap.size w wl) := HBk.out.trans (hb.mono HBk.out.size)
            have HXl : Hid (B8 wl q0 q1 q2 o s n s' n' (.slice au m cu) (.slice au' m' cu')) := HXk.out.below hb
            clear hb hss htops
            simp only []
            refine hK.out _ _ (S8.of HXl.out) (fun hHeld => ?_)
            clear hK K hHeld2
            refine wpAnyH_ready (rs := [37]) (by kernel_rfl) (by simp) ?_
            refine AllReadyH.cons (o := _) rfl (fun K hK => ?_) AllReadyH.nil
            go_simp
            refine (Pw.same_any vt vr ts ts _ HSl.out.1 HSl.out.2.1 HSl.out.2.2 HSl.out.2.2).mono ?_
            rintro e wm ⟨rfl, hb⟩
            rw [decide_eq_true (show ts = ts from rfl)]
            have HBm : Hid (Below w.heap.size w wm) := HBl.out.trans (hb.mono HBl.out.size)
            have HXm : Hid (B8 wm q0 q1 q2 o s n s' n' (.slice au m cu) (.slice au' m' cu')) := HXl.out.below hb
            clear hb
            simp only []
            refine hK.out _ _ (S8.of HXm.out) (fun hHeld2 => ?_)
            clear hK K hHeld
            refine' take_at (i := 38) (d := 88) (v := _) rfl rfl (by kernel_rfl) (by kernel_rfl) (by kernel_rfl) (fun _ _ _ h => h) (Or.inl ⟨by rfl, ?h38⟩) (by assumption) ?_
            case h38 => intro w hSw; unfold S8 at hSw; go_simp; with_reducible rfl
            simp only [List.setIfInBounds_toArray, List.set_cons_zero, List.set_cons_succ]
            refine' take_at (i := 39) (d := 6) (v := _) rfl rfl (by kernel_rfl) (by kernel_rfl) (by kernel_rfl) (fun _ _ _ h => h) (Or.inl ⟨by rfl, ?h39⟩) (by assumption) ?_
            case h39 => intro w hSw; unfold S8 at hSw; go_simp; with_reducible rfl
            simp only [List.setIfInBounds_toArray, List.set_cons_zero, List.set_cons_succ]
            refine wpAnyH_done (by kernel_rfl) ?_ _
            clear hHeld2
            go_wp2
            go_ret
            exact ⟨rfl, HBm.out⟩

end Go.Proofs.YtcpajjjkhikipaaGreatDoor
