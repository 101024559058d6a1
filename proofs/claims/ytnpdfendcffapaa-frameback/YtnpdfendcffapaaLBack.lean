/- The walk of the statement FrameBack, over what Put and Scan answer: it answers true. -/
import Derived.Test.YtnpdfendcffapaaLOn
namespace Go.Proofs.Ytnpdfendcffapaa
open Go.RowKit

theorem Bl.cut {w : World} {av : Option Addr} {n c k : Nat} {ls : List (List UInt8)} (h : Bl w (.slice av n c) ls) (hk : k ≤ n) : Bl w (.slice av k c) (ls.take k) := by
  obtain ⟨av', n', c', hv, hn, hc⟩ := h
  simp only [Value.slice.injEq] at hv
  obtain ⟨rfl, rfl, rfl⟩ := hv
  refine ⟨av, k, c, rfl, by rw [List.length_take]; omega, fun j xs hx => hc j xs ?_⟩
  rw [List.getElem?_take] at hx
  split at hx
  · exact hx
  · cases hx

set_option maxRecDepth 20000 in
set_option maxHeartbeats 4000000 in
theorem back_few (hp : PutSpec) (hs : ScanSpec) (vl : Value) (ls : List (List UInt8)) (z : Int) (w : World) (hvl : Bl w vl ls) (hl : ls.length ≤ 12) (hL : ∀ r ∈ ls, r.length ≤ maxLen) (hcap : ∀ a m c, vl = .slice a m c → m ≤ c) :
    Calls Try.prog 5 #[vl, .int .i64 z] w fun e w' => e = .returned (.bool true) ∧ Below w.heap.size w w' := by
  have HP : Hid PutSpec := hp
  have HSc : Hid ScanSpec := hs
  have HVL : Hid (Bl w vl ls) := hvl
  have HLM : Hid (∀ r ∈ ls, r.length ≤ 9223372036854775807) := hL
  obtain ⟨al, n, cl, rfl, hn, hq1⟩ := hvl
  have HN : Hid (n = ls.length ∧ ls.length ≤ 12) := ⟨hn, hl⟩
  have HCL : Hid (n ≤ cl) := hcap _ _ _ rfl
  clear hcap
  have t1 : ¬ (12 : Int) < (n : Int) := by omega
  obtain ⟨F, hF⟩ : ∃ F : Nat → Nat, F = fun k => (Fr.frames (ls.take k)).length := ⟨_, rfl⟩
  have HF : Hid (∀ k, F k = (Fr.frames (ls.take k)).length) := fun k => by rw [hF]
  clear hp hs hn hl hL hq1 hF
  go_enter Try.func5, Try.ntmps5
  go_wp2_with fail
  refine (awake_any HP.out HSc.out _).mono ?_
  rintro e w1 ⟨rfl, hb⟩
  have HB1 : Hid (Below w.heap.size w w1) := hb
  clear hb
  go_wp2
  go_loopw [5, 6, 7, 8] (fun f wh sz i wr => ∃ k q : Nat, k ≤ n ∧ q ≤ k ∧ i = .int .i64 (k : Int) ∧ wh = .int .i64 (q : Int) ∧ sz = .int .i64 (F q : Int) ∧ Bs wr f (Fr.frames (ls.take k)) ∧ (∀ r ∈ ls.take k, r.length ≤ 200) ∧ (q = 0 ∨ (F q : Int) ≤ z) ∧ (q < k → z < (F (q + 1) : Int)) ∧ Below w.heap.size w wr) (fun _ _ _ i _ => ((n : Int) - intOf i).toNat)
  case atStart =>
    refine ⟨0, 0, Nat.zero_le _, Nat.le_refl _, rfl, rfl, ?_, Bs.nil _, fun r hr => by simp at hr, Or.inl rfl, fun h => by omega, HB1.out⟩
    rw [HF.out]
    rfl
  case round =>
    obtain ⟨k, q, hk, hqk, rfl, rfl, rfl, hf, hsm, hq0, hq1, hb⟩ := hrel
    have HFS : Hid (Bs wr u5 (Fr.frames (ls.take k)) ∧ ∀ r ∈ ls.take k, r.length ≤ 200) := ⟨hf, hsm⟩
    have HQ : Hid ((q = 0 ∨ (F q : Int) ≤ z) ∧ (q < k → z < (F (q + 1) : Int))) := ⟨hq0, hq1⟩
    have HB2 : Hid (Below w.heap.size w wr) := hb
    clear hf hsm hq0 hq1
    by_cases hlt : k < n
    · have hlt' : (k : Int) < (n : Int) := by omega
      have hkl : k < ls.length := by rw [← HN.out.1]; exact hlt
      obtain ⟨g, o, c, hv, hc⟩ := (HVL.out.below hb).at (by omega)
      simp only [Value.slice.injEq] at hv
      obtain ⟨rfl, hx1, rfl⟩ := hv
      obtain ⟨u, hu, hbu⟩ := hc k ls[k] (List.getElem?_eq_getElem hkl)
      have HK : Hid (ls[k]? = some ls[k] ∧ ls[k].length ≤ 9223372036854775807) := ⟨List.getElem?_eq_getElem hkl, HLM.out _ (List.getElem_mem hkl)⟩
      generalize ls[k] = r at *
      have HU : Hid (Bs wr u r) := hbu
      obtain ⟨ao, nr, cr, rfl, hnr, hq⟩ := hbu
      have HNR : Hid (nr = r.length) := hnr
      clear hc hx1 hnr hq hb hkl
      by_cases hbig : 200 < nr
      · have hbig' : (200 : Int) < (nr : Int) := by omega
        go_wp2
        go_ret
        exact ⟨rfl, HB2.out⟩
      · have hbig' : ¬ (200 : Int) < (nr : Int) := by omega
        go_wp2_with fail
        refine (HP.out u5 _ _ r _ HFS.out.1 HU.out (by have := frames_small (by have := HN.out; omega) HFS.out.2; omega) (by have := HNR.out; omega)).mono ?_
        rintro e w3 ⟨v3, rfl, ho, hb⟩
        have hsm3 := small_take HK.out.1 (by have := HNR.out; omega) HFS.out.2
        have hbs3 : Bs w3 v3 (Fr.frames (ls.take (k + 1))) := by
          have h := Bs.own ho
          rw [← frames_take HK.out.1] at h
          exact h
        have HF3 : Hid (Bs w3 v3 (Fr.frames (ls.take (k + 1))) ∧ ∀ r ∈ ls.take (k + 1), r.length ≤ 200) := ⟨hbs3, hsm3⟩
        have HB3 : Hid (Below w.heap.size w w3) := HB2.out.trans (hb.mono HB2.out.size)
        obtain ⟨a3, n3, c3, rfl, hn3, hq3⟩ := hbs3
        rw [← HF.out] at hn3
        subst hn3
        have hF3 : F (k + 1) ≤ 3000 := by rw [HF.out]; exact frames_small HN.out.2 hsm3
        clear ho hb hq3 hsm3
        by_cases hcut : (F (k + 1) : Int) ≤ z
        · go_wp2
          go_roundw
          case rel => exact ⟨k + 1, k + 1, by omega, Nat.le_refl _, by go_num, by go_num, rfl, HF3.out.1, HF3.out.2, Or.inr hcut, fun h => by omega, HB3.out⟩
          case measure => simp [intOf]; omega
        · have HQ3 : Hid (q < k + 1 → z < (F (q + 1) : Int)) := fun h => by
            by_cases hqk2 : q < k
            · exact HQ.out.2 hqk2
            · obtain rfl : q = k := by omega
              omega
          go_wp2
          go_roundw
          case rel => exact ⟨k + 1, q, by omega, by omega, by go_num, rfl, rfl, HF3.out.1, HF3.out.2, HQ.out.1, HQ3.out, HB3.out⟩
          case measure => simp [intOf]; omega
    · have hlt' : ¬ (k : Int) < (n : Int) := by omega
      obtain rfl : k = n := by omega
      have hkn : ls.take k = ls := List.take_of_length_le (by rw [← HN.out.1]; omega)
      rw [hkn] at HFS
      have HR20 : Hid (∀ r ∈ ls, r.length ≤ 20000) := fun r hr => Nat.le_trans (HFS.out.2 r hr) (by decide)
      have HBf : Hid (Bs wr u5 (Fr.frames ls)) := HFS.out.1
      obtain ⟨af, T, cf, hu5, hT, hslf⟩ := HFS.out.1
      subst hu5
      have HT : Hid (T = (Fr.frames ls).length) := hT
      have hT1 : T ≤ 3000 := by
        have h1 := frames_le ls HFS.out.2
        have h2 := HN.out
        omega
      have HCF : Hid (T ≤ cf ∧ (af = none → T = 0 ∧ cf = 0)) := ⟨by rw [hT]; exact hslf.cap, fun e => by rw [hT]; exact hslf.nil e⟩
      have HF0 : Hid (q = 0 → F q = 0) := fun h => by rw [h, HF.out]; rfl
      have HFq : Hid (F q ≤ 3000) := by
        have h : F q ≤ 3000 := by
          rw [HF.out]
          exact frames_small HN.out.2 (fun r hr => HFS.out.2 r (List.mem_of_mem_take hr))
        exact h
      have HS1 : Hid (Fr.scan (Fr.frames ls) = (ls, T, 0)) := by
        have h := Fr.scan_whole ls HR20.out
        rw [← HT.out] at h
        exact h
      clear hT hslf hkn hb
      go_wp2_with fail
      refine (HSc.out _ _ _ HBf.out (by have := HT.out; omega)).mono ?_
      rw [HS1.out]
      rintro e w4 ⟨l4, rfl, hl4, _, hb⟩
      have HL4 : Hid (Bl w4 l4 ls) := hl4
      have HBf4 : Hid (Bs w4 (.slice af T cf) (Fr.frames ls)) := HBf.out.below hb
      have HB4 : Hid (Below w.heap.size w w4) := HB2.out.trans (hb.mono HB2.out.size)
      clear hl4 hb
      go_wp2_with fail
      refine (all_any l4 _ ls ls _ HL4.out (HVL.out.below HB4.out) (by have := HN.out; omega)).mono ?_
      rintro e w5 ⟨rfl, hb⟩
      have hd : decide (ls = ls) = true := decide_eq_true rfl
      rw [hd]
      have HBf5 : Hid (Bs w5 (.slice af T cf) (Fr.frames ls)) := HBf4.out.below hb
      have HB5 : Hid (Below w.heap.size w w5) := HB4.out.trans (hb.mono HB4.out.size)
      clear hd hb
      by_cases hneg : z < 0
      · go_wp2
        go_ret
        exact ⟨rfl, HB5.out⟩
      · by_cases hbig : (T : Int) < z
        · go_wp2
          go_ret
          exact ⟨rfl, HB5.out⟩
        · obtain ⟨t, rfl⟩ : ∃ t : Nat, z = t := ⟨z.toNat, by omega⟩
          have hcf : (t : Int) ≤ (cf : Int) := by have := HCF.out.1; omega
          cases af with
          | none =>
            obtain ⟨hT0, hcf0⟩ := HCF.out.2 rfl
            have ht0 : t = 0 := by omega
            subst ht0 hcf0
            have hql : (q : Int) ≤ (cl : Int) := by have := HCL.out; omega
            have hFq0 : F q = 0 := by rcases HQ.out.1 with h | h; exact HF0.out h; omega
            have HE0 : Hid (Fr.scan ((Fr.frames ls).take 0) = (ls.take q, 0, 0)) := by
              have h := Fr.scan_cut ls HR20.out 0 q (by rw [← HN.out.1]; omega) (Nat.zero_le _) (by rw [← HF.out, hFq0]; exact Nat.le_refl _) (fun hq => by have := HQ.out.2 (by rw [HN.out.1]; exact hq); rw [← HF.out]; omega)
              rw [← HF.out, hFq0, if_pos rfl] at h
              exact h
            rw [hFq0]
            subst hT0
            clear hFq0
            go_wp2_with fail
            refine (HSc.out _ _ _ (HBf5.out.cut (k := 0) (by omega)) (by simp)).mono ?_
            rw [HE0.out]
            rintro e w6 ⟨l6, rfl, hl6, _, hb⟩
            have HL6 : Hid (Bl w6 l6 (ls.take q)) := hl6
            have HB6 : Hid (Below w.heap.size w w6) := HB5.out.trans (hb.mono HB5.out.size)
            clear hl6 hb
            go_wp2_with fail
            refine (all_any l6 _ (ls.take q) (ls.take q) _ HL6.out ((HVL.out.below HB6.out).cut (k := q) (by omega)) (by rw [List.length_take]; have := HN.out; omega)).mono ?_
            rintro e w7 ⟨rfl, hb⟩
            have hd : decide (ls.take q = ls.take q) = true := decide_eq_true rfl
            rw [hd]
            have HB7 : Hid (Below w.heap.size w w7) := HB6.out.trans (hb.mono HB6.out.size)
            clear hd hb
            go_wp2
            go_ret
            exact ⟨rfl, HB7.out⟩
          | some ad =>
            have hql : (q : Int) ≤ (cl : Int) := by have := HCL.out; omega
            have HE : Hid (Fr.scan ((Fr.frames ls).take t) = (ls.take q, F q, if t = F q then 0 else 1)) := by
              have h := Fr.scan_cut ls HR20.out t q (by rw [← HN.out.1]; omega) (by have := HT.out; omega) (by rw [← HF.out]; rcases HQ.out.1 with h | h; exact HF0.out h ▸ Nat.zero_le _; omega) (fun hq => by have := HQ.out.2 (by rw [HN.out.1]; exact hq); rw [← HF.out]; omega)
              rw [← HF.out] at h
              exact h
            obtain ⟨S, hS⟩ : ∃ S : Nat, S = F q := ⟨_, rfl⟩
            have HSq : Hid (S = F q) := hS
            rw [← hS] at HE
            rw [← hS]
            have hS1 : S ≤ 3000 := by rw [hS]; exact HFq.out
            clear hS
            by_cases hts : t = S
            · rw [if_pos hts] at HE
              subst hts
              have HE0 : Hid (Fr.scan ((Fr.frames ls).take t) = (ls.take q, t, 0)) := HE
              clear HE
              go_wp2_with fail
              refine (HSc.out _ _ _ (HBf5.out.cut (k := t) (by omega)) (by rw [List.length_take]; have := HT.out; omega)).mono ?_
              rw [HE0.out]
              rintro e w6 ⟨l6, rfl, hl6, _, hb⟩
              have HL6 : Hid (Bl w6 l6 (ls.take q)) := hl6
              have HB6 : Hid (Below w.heap.size w w6) := HB5.out.trans (hb.mono HB5.out.size)
              clear hl6 hb
              go_wp2_with fail
              refine (all_any l6 _ (ls.take q) (ls.take q) _ HL6.out ((HVL.out.below HB6.out).cut (k := q) (by omega)) (by rw [List.length_take]; have := HN.out; omega)).mono ?_
              rintro e w7 ⟨rfl, hb⟩
              have hd : decide (ls.take q = ls.take q) = true := decide_eq_true rfl
              rw [hd]
              have HB7 : Hid (Below w.heap.size w w7) := HB6.out.trans (hb.mono HB6.out.size)
              clear hd hb
              go_wp2
              go_ret
              exact ⟨rfl, HB7.out⟩
            · rw [if_neg hts] at HE
              have HE0 : Hid (Fr.scan ((Fr.frames ls).take t) = (ls.take q, S, 1)) := HE
              have hts' : ¬ (t : Int) = (S : Int) := by omega
              have hts2 : ((t : Int) == (S : Int)) = false := beq_eq_false_iff_ne.2 hts'
              clear HE hts
              go_wp2_with fail
              refine (HSc.out _ _ _ (HBf5.out.cut (k := t) (by omega)) (by rw [List.length_take]; have := HT.out; omega)).mono ?_
              rw [HE0.out]
              rintro e w6 ⟨l6, rfl, hl6, _, hb⟩
              have HL6 : Hid (Bl w6 l6 (ls.take q)) := hl6
              have HB6 : Hid (Below w.heap.size w w6) := HB5.out.trans (hb.mono HB5.out.size)
              clear hl6 hb
              go_wp2_with fail
              refine (all_any l6 _ (ls.take q) (ls.take q) _ HL6.out ((HVL.out.below HB6.out).cut (k := q) (by omega)) (by rw [List.length_take]; have := HN.out; omega)).mono ?_
              rintro e w7 ⟨rfl, hb⟩
              have hd : decide (ls.take q = ls.take q) = true := decide_eq_true rfl
              rw [hd]
              have HB7 : Hid (Below w.heap.size w w7) := HB6.out.trans (hb.mono HB6.out.size)
              clear hd hb
              go_wp2
              go_ret
              exact ⟨rfl, HB7.out⟩

set_option maxHeartbeats 1000000 in
theorem back_many (hp : PutSpec) (hs : ScanSpec) (al : Option Addr) (n cl : Nat) (z : Int) (w : World) (h : (12 : Int) < (n : Int)) :
    Calls Try.prog 5 #[.slice al n cl, .int .i64 z] w fun e w' => e = .returned (.bool true) ∧ Below w.heap.size w w' := by
  have HP : Hid PutSpec := hp
  have HSc : Hid ScanSpec := hs
  clear hp hs
  go_enter Try.func5, Try.ntmps5
  go_wp2_with fail
  refine (awake_any HP.out HSc.out _).mono ?_
  rintro e w1 ⟨rfl, hb⟩
  have HB1 : Hid (Below w.heap.size w w1) := hb
  clear hb
  go_wp2
  go_ret
  exact ⟨rfl, HB1.out⟩

/-- FrameBack answers true. -/
theorem back_any (hp : PutSpec) (hs : ScanSpec) (vl : Value) (ls : List (List UInt8)) (z : Int) (w : World) (hvl : Bl w vl ls) (hL : ∀ r ∈ ls, r.length ≤ maxLen) (hcap : ∀ a m c, vl = .slice a m c → m ≤ c) :
    Calls Try.prog 5 #[vl, .int .i64 z] w fun e w' => e = .returned (.bool true) ∧ Below w.heap.size w w' := by
  by_cases h : (12 : Int) < (ls.length : Int)
  · obtain ⟨al, n, cl, rfl, hn, _⟩ := hvl
    exact back_many hp hs al n cl z w (by rw [hn]; exact h)
  · exact back_few hp hs vl ls z w hvl (by omega) hL hcap
end Go.Proofs.Ytnpdfendcffapaa
