/- What the statements' own long, places and awake answer. -/
import Derived.Test.YtpjdjobdbandhaaDoorSpecs16
import Derived.Test.YtpjdjobdbandhaaDoorTakeAt
import Derived.BigQuiet
import Derived.Deep.DeepCutAuto
namespace Go.Proofs.YtpjdjobdbandhaaDoor
open Go.RowKit

set_option maxRecDepth 20000 in
set_option maxHeartbeats 1000000 in
theorem long_any16 (v : Value) (os : List O) (w : World) (hv : Ol w v os) (hl : os.length ≤ maxLen) :
    Calls Tryd.prog 17 #[v] w fun e w' => e = .returned (.bool (greatB os)) ∧ Below w.heap.size w w' := by
  have HV : Hid (Ol w v os) := hv
  obtain ⟨av, n, c, rfl, hn, _⟩ := hv
  have HN : Hid (n = os.length) := hn
  unfold maxLen at hl
  have hn1 : n ≤ 9223372036854775807 := by omega
  clear hn hl
  obtain ⟨R, hR⟩ : ∃ R : Bool, R = greatB os := ⟨_, rfl⟩
  have HR : Hid (R = greatB os) := hR
  rw [← hR]
  clear hR
  go_enter Tryd.func17, Tryd.ntmps17
  by_cases h20 : 20 < n
  · have h20' : (20 : Int) < (n : Int) := by omega
    have HT : Hid (R = true) := by
      have h : R = true := by rw [HR.out]; unfold greatB; rw [decide_eq_true (by rw [← HN.out]; exact h20)]; rfl
      exact h
    go_wp2
    go_ret
    rw [HT.out]
    exact ⟨rfl, Below.refl _ _⟩
  · have h20' : ¬ (20 : Int) < (n : Int) := by omega
    have HR2 : Hid (R = os.any fun o => decide (300 < o.path.size) || decide (1100 < o.data.size)) := by
      have h : R = os.any fun o => decide (300 < o.path.size) || decide (1100 < o.data.size) := by rw [HR.out]; unfold greatB; rw [decide_eq_false (by rw [← HN.out]; exact h20)]; rfl
      exact h
    go_wp2
    go_loopw [3] (fun i wr => ∃ k : Nat, k ≤ n ∧ i = .int .i64 (k : Int) ∧ ((os.take k).any fun o => decide (300 < o.path.size) || decide (1100 < o.data.size)) = false ∧ Below w.heap.size w wr) (fun i _ => ((n : Int) - intOf i).toNat)
    case atStart => exact ⟨0, Nat.zero_le _, rfl, rfl, Below.refl _ _⟩
    case round =>
      obtain ⟨k, hk, rfl, hany, hb⟩ := hrel
      have HA : Hid (((os.take k).any fun o => decide (300 < o.path.size) || decide (1100 < o.data.size)) = false) := hany
      have HB : Hid (Below w.heap.size w wr) := hb
      clear hany
      by_cases hlt : k < n
      · have hlt' : (k : Int) < (n : Int) := by omega
        have hkl : k < os.length := by rw [← HN.out]; exact hlt
        obtain ⟨g, b, c', hv', hcs⟩ := (HV.out.below hb).at (by omega)
        simp only [Value.slice.injEq] at hv'
        obtain ⟨rfl, hq, rfl⟩ := hv'
        obtain ⟨_, h1, h2, _, _⟩ := hcs k os[k] (List.getElem?_eq_getElem hkl)
        have HK : Hid (os[k]? = some os[k]) := List.getElem?_eq_getElem hkl
        generalize os[k] = o at *
        clear hcs hq hb hkl
        by_cases hp : 300 < o.path.size
        · have hp' : (300 : Int) < (o.path.size : Int) := by omega
          have HT : Hid (R = true) := by
            have h : R = true := by rw [HR2.out]; exact any_yes HK.out (by simp [hp])
            exact h
          go_wp2
          go_ret
          rw [HT.out]
          exact ⟨rfl, HB.out⟩
        · have hp' : ¬ (300 : Int) < (o.path.size : Int) := by omega
          by_cases hd : 1100 < o.data.size
          · have hd' : (1100 : Int) < (o.data.size : Int) := by omega
            have HT : Hid (R = true) := by
              have h : R = true := by rw [HR2.out]; exact any_yes HK.out (by simp [hd])
              exact h
            go_wp2
            go_ret
            rw [HT.out]
            exact ⟨rfl, HB.out⟩
          · have hd' : ¬ (1100 : Int) < (o.data.size : Int) := by omega
            have HA2 : Hid (((os.take (k + 1)).any fun o => decide (300 < o.path.size) || decide (1100 < o.data.size)) = false) := by
              have h : ((os.take (k + 1)).any fun o => decide (300 < o.path.size) || decide (1100 < o.data.size)) = false := by
                rw [List.take_add_one, HK.out, List.any_append, HA.out]
                simp [hp, hd]
              exact h
            go_wp2
            go_roundw
            case rel => exact ⟨k + 1, by omega, by go_num, HA2.out, HB.out⟩
            case measure => simp [intOf]; omega
      · have hlt' : ¬ (k : Int) < (n : Int) := by omega
        have HF : Hid (R = false) := by
          have h : R = false := by
            have h2 := HA.out
            rw [List.take_of_length_le (by rw [← HN.out]; omega)] at h2
            rw [HR2.out, h2]
          exact h
        clear hb
        go_wp2
        go_ret
        rw [HF.out]
        exact ⟨rfl, HB.out⟩

theorem Bi.form16 {w : World} {v : Value} {zs : List Int} (h : Bi w v zs) : ∃ a c, v = .slice a zs.length c := by
  obtain ⟨a, k, c, rfl, hk, _⟩ := h
  exact ⟨a, c, by rw [hk]⟩
theorem Bi.at16 {w : World} {av : Option Addr} {k c j : Nat} {zs : List Int} {z : Int} (h : Bi w (.slice av k c) zs) (hz : zs[j]? = some z) : ∃ g o, av = some ⟨g, o, none⟩ ∧ w.cell? ⟨g, o + j, none⟩ = some (.int .i64 z) := by
  obtain ⟨av', k', c', hv, hk, hc⟩ := h
  simp only [Value.slice.injEq] at hv
  obtain ⟨rfl, rfl, rfl⟩ := hv
  exact hc j z hz
theorem Bii.at16 {w : World} {av : Option Addr} {k c j : Nat} {ls : List (List Int)} {l : List Int} (h : Bii w (.slice av k c) ls) (hz : ls[j]? = some l) : ∃ g o v, av = some ⟨g, o, none⟩ ∧ w.cell? ⟨g, o + j, none⟩ = some v ∧ Bi w v l := by
  obtain ⟨av', k', c', hv, hk, hc⟩ := h
  simp only [Value.slice.injEq] at hv
  obtain ⟨rfl, rfl, rfl⟩ := hv
  exact hc j l hz
set_option maxRecDepth 20000 in
set_option maxHeartbeats 8000000 in
/-- Are two lists of lists alike? -/
theorem places_any16 (u v : Value) (ls ms : List (List Int)) (w : World) (hu : Bii w u ls) (hv : Bii w v ms) (hl : ls.length ≤ 1000) (h1 : ∀ l ∈ ls, l.length ≤ 1000) :
    Calls Tryd.prog 16 #[u, v] w fun e w' => e = .returned (.bool (decide (ls = ms))) ∧ Below w.heap.size w w' := by
  obtain ⟨a, A, ca, rfl, hA, hca⟩ := hu
  obtain ⟨b, B, cb, rfl, hB, hcb⟩ := hv
  have H0 : Hid (A = ls.length ∧ B = ms.length ∧ Bii w (.slice a A ca) ls ∧ Bii w (.slice b B cb) ms ∧ (∀ l ∈ ls, l.length ≤ 1000)) := ⟨hA, hB, ⟨a, A, ca, rfl, hA, hca⟩, ⟨b, B, cb, rfl, hB, hcb⟩, h1⟩
  have hA1 : A ≤ 1000 := by omega
  clear hca hcb h1 hl
  go_enter Tryd.func16, Tryd.ntmps16
  by_cases hAB : A = B
  · have hne : ((A : Int) != (B : Int)) = false := by simp [hAB]
    have HAB : Hid (A = B) := hAB
    clear hA hB hAB
    go_wp2
    go_loopw [5] (fun i wx => ∃ k : Nat, k ≤ A ∧ i = .int .i64 (k : Int) ∧ Below w.heap.size w wx ∧ ls.take k = ms.take k) (fun i _ => A - (intOf i).toNat)
    case atStart => exact ⟨0, Nat.zero_le _, rfl, Below.refl _ _, rfl⟩
    case round =>
      obtain ⟨k, hk, rfl, hbw, he⟩ := hrel
      have HE : Hid (ls.take k = ms.take k) := he
      have HW : Hid (Below w.heap.size w wr) := hbw
      clear he hbw
      by_cases hlt : k < A
      · have hlt' : (k : Int) < (A : Int) := by omega
        have hlt2 : (k : Int) < (B : Int) := by have := HAB.out; omega
        have hk0 : (0 : Int) ≤ (k : Int) := by omega
        have hwk : IntKind.wrap .i64 ((k : Int) + 1) = (k : Int) + 1 := by rw [IntKind.wrap_i64]; omega
        obtain ⟨la, hx⟩ : ∃ x, ls[k]? = some x := ⟨ls[k]'(by rw [← H0.out.1]; exact hlt), List.getElem?_eq_getElem _⟩
        obtain ⟨lb, hy⟩ : ∃ y, ms[k]? = some y := ⟨ms[k]'(by rw [← H0.out.2.1, ← HAB.out]; exact hlt), List.getElem?_eq_getElem _⟩
        obtain ⟨g1, o1, va, rfl, c1, ia⟩ := (H0.out.2.2.1.below HW.out).at16 hx
        obtain ⟨g2, o2, vb, rfl, c2, ib⟩ := (H0.out.2.2.2.1.below HW.out).at16 hy
        obtain ⟨aa, kca, hva⟩ := ia.form16
        obtain ⟨ab, kcb, hvb⟩ := ib.form16
        obtain ⟨n, hn⟩ : ∃ n, n = la.length := ⟨_, rfl⟩
        obtain ⟨m, hm⟩ : ∃ m, m = lb.length := ⟨_, rfl⟩
        rw [← hn] at hva
        rw [← hm] at hvb
        subst hva hvb
        have HXY : Hid (ls[k]? = some la ∧ ms[k]? = some lb ∧ n = la.length ∧ m = lb.length ∧ Bi wr (.slice aa n kca) la ∧ Bi wr (.slice ab m kcb) lb) := ⟨hx, hy, hn, hm, ia, ib⟩
        have hn1 : n ≤ 1000 := by rw [hn]; exact H0.out.2.2.2.2 la (List.mem_of_getElem? hx)
        clear hx hy ia ib hn hm
        go_upto_region 6 with fail
        by_cases hnm : n = m
        · have hnb : ((n : Int) != (m : Int)) = false := by simp [hnm]
          have HNM : Hid (n = m) := hnm
          clear hnm
          go_quiet (fail)
          have HB2 : Hid (Below w.heap.size w (wr.drewN nq) ∧ Below wr.heap.size wr (wr.drewN nq) ∧ (wr.drewN nq).cell? ⟨g1, o1 + k, none⟩ = some (.slice aa n kca) ∧ (wr.drewN nq).cell? ⟨g2, o2 + k, none⟩ = some (.slice ab m kcb)) := ⟨below_drewN HW.out _, below_drewN (Below.refl _ _) _, c1, c2⟩
          clear c1 c2
          generalize wr.drewN nq = w2 at *
          go_wp2
          go_loopw [6] (fun i wx => ∃ j : Nat, j ≤ n ∧ i = .int .i64 (j : Int) ∧ Below w2.heap.size w2 wx ∧ la.take j = lb.take j) (fun i _ => n - (intOf i).toNat)
          case atStart => exact ⟨0, Nat.zero_le _, rfl, Below.refl _ _, rfl⟩
          case round =>
            obtain ⟨j, hj, rfl, hbj, hej⟩ := hrel
            have HJ : Hid (la.take j = lb.take j ∧ Below w2.heap.size w2 wr ∧ Below w.heap.size w wr) := ⟨hej, hbj, HB2.out.1.trans (hbj.mono HB2.out.1.size)⟩
            clear hej hbj
            have e1 : wr.cell? ⟨g1, o1 + k, none⟩ = some (.slice aa n kca) := Below.kept HJ.out.2.1 HB2.out.2.2.1
            by_cases hlj : j < n
            · have hlj' : (j : Int) < (n : Int) := by omega
              have hlm' : (j : Int) < (m : Int) := by have := HNM.out; omega
              have hj0 : (0 : Int) ≤ (j : Int) := by omega
              have hwj : IntKind.wrap .i64 ((j : Int) + 1) = (j : Int) + 1 := by rw [IntKind.wrap_i64]; omega
              have e2 : wr.cell? ⟨g2, o2 + k, none⟩ = some (.slice ab m kcb) := Below.kept HJ.out.2.1 HB2.out.2.2.2
              obtain ⟨x, hx⟩ : ∃ x, la[j]? = some x := ⟨la[j]'(by rw [← HXY.out.2.2.1]; exact hlj), List.getElem?_eq_getElem _⟩
              obtain ⟨y, hy⟩ : ∃ y, lb[j]? = some y := ⟨lb[j]'(by rw [← HXY.out.2.2.2.1, ← HNM.out]; exact hlj), List.getElem?_eq_getElem _⟩
              have hbw : Below _ _ wr := HB2.out.2.1.trans (HJ.out.2.1.mono HB2.out.2.1.size)
              obtain ⟨g3, o3, rfl, c3⟩ := (HXY.out.2.2.2.2.1.below hbw).at16 hx
              obtain ⟨g4, o4, rfl, c4⟩ := (HXY.out.2.2.2.2.2.below hbw).at16 hy
              by_cases hxy : x = y
              · have hxb : (x != y) = false := by simp [hxy]
                have HN : Hid (la.take (j + 1) = lb.take (j + 1)) := (show la.take (j + 1) = lb.take (j + 1) by rw [List.take_add_one, List.take_add_one, HJ.out.1, hx, hy, hxy])
                clear hx hy hxy hbw
                go_upto_region 11 with fail
                go_quiet (fail)
                have HB3 : Hid (Below w2.heap.size w2 (wr.drewN nq)) := below_drewN HJ.out.2.1 _
                go_wp2
                go_roundw
                case rel => exact ⟨j + 1, by omega, by go_num, HB3.out, HN.out⟩
                case measure => simp [intOf]; omega
              · have hxb : (x != y) = true := by simp [hxy]
                have HN : Hid (decide (ls = ms) = false) := (show decide (ls = ms) = false by
                  apply decide_eq_false
                  intro e
                  have h1 := HXY.out.1
                  rw [e, HXY.out.2.1] at h1
                  rw [← Option.some.inj h1, hy] at hx
                  exact hxy (Option.some.inj hx).symm)
                clear hx hy hxy hbw
                go_upto_region 11 with fail
                go_quiet (fail)
                have HB3 : Hid (Below w.heap.size w (wr.drewN nq)) := below_drewN HJ.out.2.2 _
                go_wp2
                go_ret
                exact ⟨by rw [HN.out]; rfl, HB3.out⟩
            · have hlj' : ¬ (j : Int) < (n : Int) := by omega
              have HN : Hid (ls.take (k + 1) = ms.take (k + 1)) := (show ls.take (k + 1) = ms.take (k + 1) by
                have h1 := HJ.out.1
                rw [List.take_of_length_le (by have := HXY.out.2.2.1; omega), List.take_of_length_le (by have := HXY.out.2.2.2.1; have := HNM.out; omega)] at h1
                rw [List.take_add_one, List.take_add_one, HE.out, HXY.out.1, HXY.out.2.1, h1])
              go_wp2
              go_roundw
              case rel => exact ⟨k + 1, by omega, by go_num, HJ.out.2.2, HN.out⟩
              case measure => simp [intOf]; omega
        · have hnb : ((n : Int) != (m : Int)) = true := by simp; omega
          have HN : Hid (decide (ls = ms) = false) := (show decide (ls = ms) = false by
            apply decide_eq_false
            intro e
            have h1 := HXY.out.1
            rw [e, HXY.out.2.1] at h1
            have h2 := HXY.out.2.2.1
            rw [← Option.some.inj h1] at h2
            exact hnm (by rw [h2]; exact HXY.out.2.2.2.1.symm))
          clear hnm
          go_quiet (fail)
          have HB2 : Hid (Below w.heap.size w (wr.drewN nq)) := below_drewN HW.out _
          go_wp2
          go_ret
          exact ⟨by rw [HN.out]; rfl, HB2.out⟩
      · have hlt' : ¬ (k : Int) < (A : Int) := by omega
        have HN : Hid (decide (ls = ms) = true) := (show decide (ls = ms) = true by
          apply decide_eq_true
          have h1 := HE.out
          rw [List.take_of_length_le (by have := H0.out.1; omega), List.take_of_length_le (by have := H0.out.2.1; have := HAB.out; omega)] at h1
          exact h1)
        go_wp2
        go_ret
        exact ⟨by rw [HN.out]; rfl, HW.out⟩
  · have hne : ((A : Int) != (B : Int)) = true := by simp; omega
    have HN : Hid (decide (ls = ms) = false) := (show decide (ls = ms) = false by
      apply decide_eq_false
      intro e
      rw [e] at hA
      omega)
    clear hA hB hAB
    go_wp2
    go_ret
    exact ⟨by rw [HN.out]; rfl, Below.refl _ _⟩

set_option maxRecDepth 20000 in
set_option maxHeartbeats 4000000 in
theorem awake_any16 {LS : Rep16} (S : Specs16 LS) (W : World) (hS : Pa.Std W) :
    Calls Tryd.prog 9 #[] W fun e w' => e = .returned (.bool true) ∧ Below W.heap.size W w' := by
  have HS : Hid (Specs16 LS ∧ Pa.Std W) := ⟨S, hS⟩
  have HZ : Hid ((⟨#[97]⟩ : ByteArray).size ≤ maxLen ∧ (⟨#[47, 97]⟩ : ByteArray).size ≤ maxLen ∧ (⟨#[47, 97, 47, 98]⟩ : ByteArray).size ≤ maxLen) := ⟨by decide, by decide, by decide⟩
  clear S hS
  go_enter Tryd.func9, Tryd.ntmps9
  go_wp2_with fail
  refine (mine16_new HS.out.1 (Below.refl _ W) 2 (by decide)).mono ?_
  rintro e w1 ⟨q, F1, rfl, hM, hF, hb⟩
  have M1 : Hid (Mine16 LS W w1 q 1 (Tb.new 2) F1) := hM
  clear hM hF hb
  go_wp2_with fail
  refine (M1.out.of HS.out.1 HS.out.2 (⟨#[47, 97]⟩ : ByteArray) HZ.out.2.1 1 (by kernel_rfl)).mono ?_
  rintro e w2 ⟨rfl, hM, hb⟩
  have M2 : Hid (Mine16 LS W w2 q 1 (Tb.new 2) F1) := hM
  clear hM hb M1
  go_wp2_with fail
  refine (M2.out.move HS.out.1 HS.out.2 (by decide) (⟨#[97]⟩ : ByteArray) 0 HZ.out.1 0 ⟨2, 2, [⟨(⟨#[97]⟩ : ByteArray), 0⟩]⟩ (by kernel_rfl)).mono ?_
  rintro e w3 ⟨F3, rfl, hM, hmv⟩
  have M3 : Hid (Mine16 LS W w3 q 2 ⟨2, 2, [⟨(⟨#[97]⟩ : ByteArray), 0⟩]⟩ F3) := hM
  clear hM hmv M2
  go_wp2_with fail
  refine (M3.out.of HS.out.1 HS.out.2 (⟨#[47, 97, 47, 98]⟩ : ByteArray) HZ.out.2.2 0 (by kernel_rfl)).mono ?_
  rintro e w4 ⟨rfl, hM, hb⟩
  have M4 : Hid (Mine16 LS W w4 q 2 ⟨2, 2, [⟨(⟨#[97]⟩ : ByteArray), 0⟩]⟩ F3) := hM
  clear hM hb M3
  go_wp2_with fail
  refine (M4.out.version HS.out.1 2 rfl).mono ?_
  rintro e w5 ⟨rfl, hM, hb⟩
  have M5 : Hid (Mine16 LS W w5 q 2 ⟨2, 2, [⟨(⟨#[97]⟩ : ByteArray), 0⟩]⟩ F3) := hM
  clear hM hb M4
  go_wp2_with fail
  refine (M5.out.shards HS.out.1 2 rfl).mono ?_
  rintro e w6 ⟨rfl, hM, hb⟩
  have M6 : Hid (Mine16 LS W w6 q 2 ⟨2, 2, [⟨(⟨#[97]⟩ : ByteArray), 0⟩]⟩ F3) := hM
  clear hM hb M5
  go_wp2
  go_ret
  exact ⟨rfl, M6.out.below⟩
end Go.Proofs.YtpjdjobdbandhaaDoor
