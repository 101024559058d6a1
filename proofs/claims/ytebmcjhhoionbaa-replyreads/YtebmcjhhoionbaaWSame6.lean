/- What slices.Equal answers of texts, and what reply.equal, slices.EqualFunc, Alike and Same answer. -/
import Derived.Test.YtebmcjhhoionbaaSpecs6
import Derived.Test.YtebmcjhhoionbaaTakeAt
import Derived.Deep.DeepCutAuto
import Derived.Shelf.Abstract
namespace Go.Proofs.Ytebmcjhhoionbaa
open Go.RowKit

set_option maxRecDepth 20000 in
set_option maxHeartbeats 1000000 in
theorem slEq_any (u v : Value) (ss tt : List ByteArray) (w : World) (hu : Ss w u ss) (hv : Ss w v tt) (h1 : ss.length ≤ 1000) (h2 : tt.length ≤ 1000) :
    Calls Try.prog 45 #[u, v] w fun e w' => e = .returned (.bool (decide (ss = tt))) ∧ Below w.heap.size w w' := by
  obtain ⟨r, hr⟩ : ∃ r, r = decide (ss = tt) := ⟨_, rfl⟩
  rw [← hr]
  have HR : Hid (r = decide (ss = tt)) := hr
  obtain ⟨av, n, c, rfl, hn, hcs⟩ := hu
  obtain ⟨bv, m, d, rfl, hm, hds⟩ := hv
  have HN : Hid (n = ss.length) := hn
  have HM : Hid (m = tt.length) := hm
  have HC : Hid (∀ (j : Nat) s, ss[j]? = some s → ∃ g o, av = some ⟨g, o, none⟩ ∧ w.cell? ⟨g, o + j, none⟩ = some (.string s)) := hcs
  have HD : Hid (∀ (j : Nat) s, tt[j]? = some s → ∃ g o, bv = some ⟨g, o, none⟩ ∧ w.cell? ⟨g, o + j, none⟩ = some (.string s)) := hds
  have hn1 : n ≤ 1000 := by omega
  have hm1 : m ≤ 1000 := by omega
  clear hn hm hcs hds h1 h2 hr
  cases hne : ((n : Int) != (m : Int)) with
  | true =>
    have hnm : ss ≠ tt := by
      intro e
      have h : (n : Int) = m := by rw [HN.out, HM.out, e]
      rw [h] at hne; simp at hne
    have HF : Hid (r = false) := by rw [HR.out]; exact decide_eq_false hnm
    clear hnm
    go_enter Try.func45, Try.ntmps45
    go_wp2
    go_ret
    exact ⟨ret_bool HF.out.symm, Below.refl _ _⟩
  | false =>
    obtain rfl : n = m := by have h : (n : Int) = m := by simpa using hne
                             omega
    clear hne
    have hne : ((n : Int) != (n : Int)) = false := by simp
    go_enter Try.func45, Try.ntmps45
    go_wp2
    go_loopw [13] (fun i wr => ∃ k : Nat, k ≤ n ∧ i = .int .i64 k ∧ ss.take k = tt.take k ∧ Below w.heap.size w wr) (fun i _ => n - (intOf i).toNat)
    case atStart => exact ⟨0, Nat.zero_le _, rfl, rfl, Below.refl _ _⟩
    case round =>
      obtain ⟨k, hk, rfl, htk, hb⟩ := hrel
      have HB : Hid (Below w.heap.size w wr) := hb
      have HT : Hid (ss.take k = tt.take k) := htk
      clear hb htk
      by_cases hlt : k < n
      · obtain ⟨x, hx⟩ : ∃ x, ss[k]? = some x := ⟨ss[k]'(by rw [← HN.out]; exact hlt), List.getElem?_eq_getElem _⟩
        obtain ⟨y, hy⟩ : ∃ y, tt[k]? = some y := ⟨tt[k]'(by rw [← HM.out]; exact hlt), List.getElem?_eq_getElem _⟩
        obtain ⟨g, o, rfl, c1⟩ := HC.out k x hx
        obtain ⟨g2, o2, rfl, c2⟩ := HD.out k y hy
        have d1 : wr.cell? ⟨g, o + k, none⟩ = some (.string x) := Below.kept HB.out c1
        have d2 : wr.cell? ⟨g2, o2 + k, none⟩ = some (.string y) := Below.kept HB.out c2
        have HX : Hid (ss[k]? = some x) := hx
        have HY : Hid (tt[k]? = some y) := hy
        clear hx hy c1 c2
        have hlt' : (k : Int) < n := by omega
        have hk0 : (0 : Int) ≤ k := by omega
        cases he : (x.toList == y.toList) with
        | true =>
          have HE : Hid (x = y) := bytes_eq he
          go_wp2
          go_region
          go_wp2
          go_roundw
          case rel => exact ⟨k + 1, by omega, by go_num, by rw [List.take_add_one, List.take_add_one, HX.out, HY.out, HT.out, HE.out], HB.out.drew⟩
          case measure => simp [intOf]; omega
        | false =>
          have HF : Hid (r = false) := by
            rw [HR.out]
            refine decide_eq_false (fun e => ?_)
            have h := HX.out
            rw [e, HY.out] at h
            rw [Option.some.inj h] at he
            simp at he
          go_wp2
          go_region
          go_wp2
          go_ret
          exact ⟨ret_bool HF.out.symm, HB.out.drew⟩
      · have HG : Hid (r = true) := by
          rw [HR.out]
          refine decide_eq_true ?_
          have h := HT.out
          rwa [List.take_of_length_le (by rw [← HN.out]; omega), List.take_of_length_le (by rw [← HM.out]; omega)] at h
        go_wp2
        go_ret
        exact ⟨ret_bool HG.out.symm, HB.out⟩

set_option maxRecDepth 20000 in
set_option maxHeartbeats 4000000 in
theorem equal_any (P0 : Prop) (x y : X) (nv mv : Value) (w : World) (hx : Sq w nv x.names) (hy : Sq w mv y.names) (hxl : x.names.length ≤ 1000) (hyl : y.names.length ≤ 1000) (hP : P0 ↔ x = y) :
    Calls Try.prog 30 #[.agg #[.int .i64 x.err, .string x.path, .string x.data, nv, .int .i64 x.made, .int .i64 x.changed, .int .i64 x.ver, .int .i64 x.kids, .int .i64 x.owner, .int .i64 x.len, .int .i64 x.cnt], .agg #[.int .i64 y.err, .string y.path, .string y.data, mv, .int .i64 y.made, .int .i64 y.changed, .int .i64 y.ver, .int .i64 y.kids, .int .i64 y.owner, .int .i64 y.len, .int .i64 y.cnt]] w (BoolP P0 w) := by
  have HPP : Hid (P0 ↔ x = y) := hP
  have HN : Hid (Sq w nv x.names ∧ Sq w mv y.names ∧ x.names.length ≤ 1000 ∧ y.names.length ≤ 1000) := ⟨hx, hy, hxl, hyl⟩
  obtain ⟨an, kn, cn, rfl, hX⟩ := hx
  obtain ⟨am, km, cm, rfl, hY⟩ := hy
  clear hX hY hxl hyl hP
  obtain ⟨q1, hq1⟩ : ∃ q, q = w.heap.size + 1 := ⟨_, rfl⟩
  obtain ⟨wA, hwA⟩ : ∃ W, W = w.alloc (.cells #[.int .i64 x.err, .string x.path, .string x.data, .slice an kn cn, .int .i64 x.made, .int .i64 x.changed, .int .i64 x.ver, .int .i64 x.kids, .int .i64 x.owner, .int .i64 x.len, .int .i64 x.cnt] 35) := ⟨_, rfl⟩
  obtain ⟨w1, hw1⟩ : ∃ W, W = wA.alloc (.cells #[.int .i64 y.err, .string y.path, .string y.data, .slice am km cm, .int .i64 y.made, .int .i64 y.changed, .int .i64 y.ver, .int .i64 y.kids, .int .i64 y.owner, .int .i64 y.len, .int .i64 y.cnt] 35) := ⟨_, rfl⟩
  have hA : Below w.heap.size w wA := by rw [hwA]; exact (Below.refl _ w).alloc (Nat.le_refl _) _
  have hAs : wA.heap.size = w.heap.size + 1 := by rw [hwA, World.size_alloc]
  have h1A : Below wA.heap.size wA w1 := by rw [hw1]; exact (Below.refl _ wA).alloc (Nat.le_refl _) _
  have HB1 : Hid (Below w.heap.size w w1) := hA.trans (h1A.mono (by omega))
  have HX1 : Hid (BoxX w1 w.heap.size x (.slice an kn cn) ∧ BoxX w1 q1 y (.slice am km cm)) := by
    refine ⟨?_, ?_⟩
    · have h : BoxX wA w.heap.size x (.slice an kn cn) := by rw [hwA]; exact BoxX.made w x _ _
      exact h.below h1A
    · rw [hw1, hq1, ← hAs]
      exact BoxX.made wA y _ _
  clear hA hAs h1A
  go_enter Try.func30, Try.ntmps30
  go_upto_region 1 with fail
  rw [← hq1, ← hwA, ← hw1]
  clear hq1 hwA hw1
  obtain ⟨c0, c1, c2, c3, c4, c5, c6, c7, c8, c9, c10⟩ := HX1.out.1
  obtain ⟨d0, d1, d2, d3, d4, d5, d6, d7, d8, d9, d10⟩ := HX1.out.2
  by_cases h1 : x.err = y.err
  rotate_left
  · have HNE : Hid (¬ x = y) := fun e => h1 (by rw [e])
    go_wp2
    go_ret
    exact ⟨false, rfl, ⟨fun h => (by cases h), fun h => absurd (HPP.out.1 h) HNE.out⟩, HB1.out⟩
  by_cases h2 : x.path.toList = y.path.toList
  rotate_left
  · have HNE : Hid (¬ x = y) := fun e => h2 (by rw [e])
    go_wp2
    go_ret
    exact ⟨false, rfl, ⟨fun h => (by cases h), fun h => absurd (HPP.out.1 h) HNE.out⟩, HB1.out⟩
  by_cases h3 : x.data.toList = y.data.toList
  rotate_left
  · have HNE : Hid (¬ x = y) := fun e => h3 (by rw [e])
    go_wp2
    go_ret
    exact ⟨false, rfl, ⟨fun h => (by cases h), fun h => absurd (HPP.out.1 h) HNE.out⟩, HB1.out⟩
  have H123 : Hid (x.err = y.err ∧ x.path.toList = y.path.toList ∧ x.data.toList = y.data.toList) := ⟨h1, h2, h3⟩
  go_wp2_with fail
  refine (slEq_any _ _ x.names y.names _ (HN.out.1.ss.below HB1.out) (HN.out.2.1.ss.below HB1.out) HN.out.2.2.1 HN.out.2.2.2).mono ?_
  rintro e w2 ⟨rfl, hb⟩
  have HB2 : Hid (Below w.heap.size w w2) := HB1.out.trans (hb.mono HB1.out.size)
  have HX2 : Hid (BoxX w2 w.heap.size x (.slice an kn cn) ∧ BoxX w2 q1 y (.slice am km cm)) := ⟨HX1.out.1.below hb, HX1.out.2.below hb⟩
  clear hb c0 c1 c2 c3 c4 c5 c6 c7 c8 c9 c10 d0 d1 d2 d3 d4 d5 d6 d7 d8 d9 d10 h1 h2 h3
  obtain ⟨C, hC⟩ : ∃ C, C = decide (x.names = y.names) := ⟨_, rfl⟩
  have HC : Hid (C = decide (x.names = y.names)) := hC
  rw [← hC]
  clear hC
  cases C with
  | false =>
    have HNE : Hid (¬ x = y) := fun e => by
      have h := HC.out
      rw [decide_eq_true (by rw [e])] at h
      cases h
    go_wp2
    go_ret
    exact ⟨false, rfl, ⟨fun h => (by cases h), fun h => absurd (HPP.out.1 h) HNE.out⟩, HB2.out⟩
  | true =>
    obtain ⟨c0, c1, c2, c3, c4, c5, c6, c7, c8, c9, c10⟩ := HX2.out.1
    obtain ⟨d0, d1, d2, d3, d4, d5, d6, d7, d8, d9, d10⟩ := HX2.out.2
    obtain ⟨E, hE⟩ : ∃ E, E = sameS x y := ⟨_, rfl⟩
    have HE : Hid (E = true ↔ x = y) := by
      have h : E = true ↔ x = y := by
        rw [hE]
        constructor
        · intro h
          exact x_ext H123.out.1 H123.out.2.1 H123.out.2.2 (of_decide_eq_true HC.out.symm) h
        · intro h
          rw [h]
          exact sameS_refl y
      exact h
    have heq : ∀ W, (binOp .eql 33 (.agg #[.int .i64 x.made, .int .i64 x.changed, .int .i64 x.ver, .int .i64 x.kids, .int .i64 x.owner, .int .i64 x.len, .int .i64 x.cnt]) (.agg #[.int .i64 y.made, .int .i64 y.changed, .int .i64 y.ver, .int .i64 y.kids, .int .i64 y.owner, .int .i64 y.len, .int .i64 y.cnt])).run Try.prog W = .ok (.bool E) W := fun W => by rw [hE]; exact stat_eql x y W
    have hgd : ∀ a b W, (eqGuard .eql 33 a b (.agg #[.int .i64 x.made, .int .i64 x.changed, .int .i64 x.ver, .int .i64 x.kids, .int .i64 x.owner, .int .i64 x.len, .int .i64 x.cnt]) (.agg #[.int .i64 y.made, .int .i64 y.changed, .int .i64 y.ver, .int .i64 y.kids, .int .i64 y.owner, .int .i64 y.len, .int .i64 y.cnt])).run Try.prog W = .ok () W := fun a b W => stat_guard _ _ _ _ _ _
    clear hE
    go_wp2
    go_ret
    exact ⟨E, rfl, ⟨fun h => HPP.out.2 (HE.out.1 h), fun h => HE.out.2 (HPP.out.1 h)⟩, HB2.out⟩

set_option maxRecDepth 20000 in
set_option maxHeartbeats 4000000 in
theorem eqFunc_any (P0 : Prop) (u u' : Value) (xs ys : List X) (w : World) (hu : Rl w u xs) (hu' : Rl w u' ys) (hl : xs.length ≤ maxLen) (hl' : ys.length ≤ maxLen) (hx : Few xs) (hy : Few ys) (hP : P0 ↔ xs = ys) :
    Calls Try.prog 29 #[u, u', .func (.func 30) #[] #[]] w (BoolP P0 w) := by
  have eg : ∀ args w, (callFunc 30 args).run Try.prog w = .ok (.enter 30 args) w := enters_of Try.func30 (by kernel_rfl) rfl
  have HPP : Hid (P0 ↔ xs = ys) := hP
  have HU : Hid (Rl w u xs ∧ Rl w u' ys ∧ Few xs ∧ Few ys) := ⟨hu, hu', hx, hy⟩
  obtain ⟨au, m, cu, rfl, hm, hX⟩ := hu
  obtain ⟨au', m', cu', rfl, hm', hX'⟩ := hu'
  have HM : Hid (m = xs.length ∧ m' = ys.length) := ⟨hm, hm'⟩
  have hm1 : m ≤ 9223372036854775807 := by unfold maxLen at hl; omega
  have hm2 : m' ≤ 9223372036854775807 := by unfold maxLen at hl'; omega
  clear hm hm' hl hl' hX hX' hx hy hP
  go_enter Try.func29, Try.ntmps29
  by_cases h3 : m = m'
  · subst h3
    go_wp2
    go_loopw [17] (fun i wr => ∃ k : Nat, k ≤ m ∧ i = .int .i64 (k : Int) ∧ (∀ j : Nat, j < k → xs[j]? = ys[j]?) ∧ Below w.heap.size w wr) (fun i _ => ((m : Int) - intOf i).toNat)
    case atStart => exact ⟨0, Nat.zero_le _, rfl, fun j hj => by omega, Below.refl _ _⟩
    case round =>
      obtain ⟨k, hk, rfl, hsame, hb⟩ := hrel
      have HS : Hid (∀ j : Nat, j < k → xs[j]? = ys[j]?) := hsame
      have HB : Hid (Below w.heap.size w wr) := hb
      clear hsame hb
      by_cases hlt : k < m
      · have hlt' : (k : Int) < (m : Int) := by omega
        have hkl : k < xs.length := by rw [← HM.out.1]; exact hlt
        have hkl' : k < ys.length := by rw [← HM.out.2]; exact hlt
        obtain ⟨g, b, c', hv', hcc, hcs⟩ := (HU.out.1.below HB.out).at (by omega)
        simp only [Value.slice.injEq] at hv'
        obtain ⟨rfl, hq, rfl⟩ := hv'
        obtain ⟨nv, hnv, hat⟩ := hcs k xs[k] (List.getElem?_eq_getElem hkl)
        obtain ⟨g', b', c'', hv'', hcc', hcs'⟩ := (HU.out.2.1.below HB.out).at (by omega)
        simp only [Value.slice.injEq] at hv''
        obtain ⟨rfl, hq', rfl⟩ := hv''
        obtain ⟨mv, hmv, hat'⟩ := hcs' k ys[k] (List.getElem?_eq_getElem hkl')
        have HK : Hid (xs[k]? = some xs[k] ∧ ys[k]? = some ys[k] ∧ xs[k].names.length ≤ 1000 ∧ ys[k].names.length ≤ 1000) := ⟨List.getElem?_eq_getElem hkl, List.getElem?_eq_getElem hkl', HU.out.2.2.1 _ (List.getElem_mem hkl), HU.out.2.2.2 _ (List.getElem_mem hkl')⟩
        generalize xs[k] = x at *
        generalize ys[k] = y at *
        clear hcs hcs' hq hq' hkl hkl' hcc hcc'
        have HNV : Hid (Sq wr nv x.names ∧ Sq wr mv y.names) := ⟨hnv, hmv⟩
        obtain ⟨an, kn, cn, rfl, hY1⟩ := hnv
        obtain ⟨am, km, cm, rfl, hY2⟩ := hmv
        clear hY1 hY2
        obtain ⟨wA, hwA⟩ : ∃ W, W = wr.alloc (.cells #[.int .i64 x.err, .string x.path, .string x.data, .slice an kn cn, .int .i64 x.made, .int .i64 x.changed, .int .i64 x.ver, .int .i64 x.kids, .int .i64 x.owner, .int .i64 x.len, .int .i64 x.cnt] 35) := ⟨_, rfl⟩
        have hA : Below wr.heap.size wr wA := by rw [hwA]; exact (Below.refl _ wr).alloc (Nat.le_refl _) _
        have HBA : Hid (Below w.heap.size w wA) := HB.out.trans (hA.mono HB.out.size)
        have hatA := hat'.below hA
        have HNA : Hid (Sq wA (.slice an kn cn) x.names ∧ Sq wA (.slice am km cm) y.names) := ⟨HNV.out.1.below hA, HNV.out.2.below hA⟩
        have HXA : Hid (BoxX wA wr.heap.size x (.slice an kn cn)) := by rw [hwA]; exact BoxX.made wr x _ _
        obtain ⟨c0, c1, c2, c3, c4, c5, c6, c7, c8, c9, c10⟩ := hat
        clear hA hat'
        obtain ⟨qx, hqx⟩ : ∃ q, q = wr.heap.size := ⟨_, rfl⟩
        rw [← hqx] at HXA
        go_upto_region 6 with fail
        rw [← hwA, ← hqx]
        clear hwA hqx c0 c1 c2 c3 c4 c5 c6 c7 c8 c9 c10
        obtain ⟨d0, d1, d2, d3, d4, d5, d6, d7, d8, d9, d10⟩ := hatA
        obtain ⟨wB, hwB⟩ : ∃ W, W = wA.alloc (.cells #[.int .i64 y.err, .string y.path, .string y.data, .slice am km cm, .int .i64 y.made, .int .i64 y.changed, .int .i64 y.ver, .int .i64 y.kids, .int .i64 y.owner, .int .i64 y.len, .int .i64 y.cnt] 35) := ⟨_, rfl⟩
        have hB : Below wA.heap.size wA wB := by rw [hwB]; exact (Below.refl _ wA).alloc (Nat.le_refl _) _
        have HBB : Hid (Below w.heap.size w wB) := HBA.out.trans (hB.mono HBA.out.size)
        have HNB : Hid (Sq wB (.slice an kn cn) x.names ∧ Sq wB (.slice am km cm) y.names) := ⟨HNA.out.1.below hB, HNA.out.2.below hB⟩
        obtain ⟨qy, hqy⟩ : ∃ q, q = wA.heap.size := ⟨_, rfl⟩
        have HXB : Hid (BoxX wB qx x (.slice an kn cn) ∧ BoxX wB qy y (.slice am km cm)) := ⟨HXA.out.below hB, by rw [hwB, hqy]; exact BoxX.made wA y _ _⟩
        clear hB
        go_upto_region 7 with fail
        rw [← hwB, ← hqy]
        clear hwB hqy d0 d1 d2 d3 d4 d5 d6 d7 d8 d9 d10
        obtain ⟨c0, c1, c2, c3, c4, c5, c6, c7, c8, c9, c10⟩ := HXB.out.1
        obtain ⟨d0, d1, d2, d3, d4, d5, d6, d7, d8, d9, d10⟩ := HXB.out.2
        go_wp2_with (go_at_fn 30; refine (equal_any (x = y) x y _ _ _ HNB.out.1 HNB.out.2 HK.out.2.2.1 HK.out.2.2.2 Iff.rfl).mono ?_; rintro e w2 ⟨R, rfl, hR, hb⟩; have HR : Hid (R = true ↔ x = y) := hR; have HB2 : Hid (Below w.heap.size w w2) := HBB.out.trans (hb.mono HBB.out.size); clear hR hb c0 c1 c2 c3 c4 c5 c6 c7 c8 c9 c10 d0 d1 d2 d3 d4 d5 d6 d7 d8 d9 d10; cases R)
        · have HNE : Hid (¬ xs = ys) := fun e => by
            have h1 := HK.out.1
            rw [e, HK.out.2.1] at h1
            have := HR.out.2 (Option.some.inj h1).symm
            cases this
          go_ret
          exact ⟨false, rfl, ⟨fun h => (by cases h), fun h => absurd (HPP.out.1 h) HNE.out⟩, HB2.out⟩
        · have HS2 : Hid (∀ j : Nat, j < k + 1 → xs[j]? = ys[j]?) := fun j hj => by
            by_cases hjk : j < k
            · exact HS.out j hjk
            · obtain rfl : j = k := by omega
              rw [HK.out.1, HK.out.2.1, HR.out.1 (by simp)]
          go_roundw
          case rel => exact ⟨k + 1, by omega, by go_num, HS2.out, HB2.out⟩
          case measure => simp [intOf]; omega
      · have hlt' : ¬ (k : Int) < (m : Int) := by omega
        have HEQ : Hid (xs = ys) := by
          have h : xs = ys := by
            apply List.ext_getElem?
            intro j
            by_cases hj : j < k
            · exact HS.out j hj
            · rw [List.getElem?_eq_none (by rw [← HM.out.1]; omega), List.getElem?_eq_none (by rw [← HM.out.2]; omega)]
          exact h
        go_wp2
        go_ret
        exact ⟨true, rfl, ⟨fun _ => HPP.out.2 HEQ.out, fun _ => rfl⟩, HB.out⟩
  · have h3' : ¬ (m : Int) = (m' : Int) := by omega
    have HNE : Hid (¬ xs = ys) := fun e => h3 (by rw [HM.out.1, HM.out.2, e])
    clear h3
    go_wp2
    go_ret
    exact ⟨false, rfl, ⟨fun h => (by cases h), fun h => absurd (HPP.out.1 h) HNE.out⟩, Below.refl _ _⟩


set_option maxRecDepth 20000 in
set_option maxHeartbeats 4000000 in
theorem alike_spec : AlikeSpec := by
  intro P0 u u' xs ys w hu hu' hl hl' hx hy hP
  have HH : Hid (Rl w u xs ∧ Rl w u' ys ∧ xs.length ≤ maxLen ∧ ys.length ≤ maxLen ∧ Few xs ∧ Few ys ∧ (P0 ↔ xs = ys)) := ⟨hu, hu', hl, hl', hx, hy, hP⟩
  obtain ⟨au, m, cu, rfl, hX⟩ := hu
  obtain ⟨au', m', cu', rfl, hX'⟩ := hu'
  clear hX hX' hx hy hl hl' hP
  go_enter Try.func13, Try.ntmps13
  go_wp2_with fail
  refine (eqFunc_any P0 _ _ xs ys _ HH.out.1 HH.out.2.1 HH.out.2.2.1 HH.out.2.2.2.1 HH.out.2.2.2.2.1 HH.out.2.2.2.2.2.1 HH.out.2.2.2.2.2.2).mono ?_
  rintro e w2 ⟨R, rfl, hR, hb⟩
  have HR : Hid ((R = true ↔ P0) ∧ Below w.heap.size w w2) := ⟨hR, hb⟩
  clear hR hb
  go_wp2
  go_ret
  exact ⟨R, rfl, HR.out.1, HR.out.2⟩

set_option maxRecDepth 20000 in
set_option maxHeartbeats 4000000 in
theorem same_spec6 : SameSpec6 := by
  intro P0 r q u u' w hu hu' hl hl' hx hy hP
  have HPP : Hid (P0 ↔ r = q) := hP
  have HU : Hid (Rl w u r.xs ∧ Rl w u' q.xs ∧ Few r.xs ∧ Few q.xs ∧ r.xs.length ≤ maxLen ∧ q.xs.length ≤ maxLen) := ⟨hu, hu', hx, hy, hl, hl'⟩
  obtain ⟨au, m, cu, rfl, hX⟩ := hu
  obtain ⟨au', m', cu', rfl, hX'⟩ := hu'
  clear hX hX' hx hy hl hl' hP
  obtain ⟨q1, hq1⟩ : ∃ q, q = w.heap.size + 1 := ⟨_, rfl⟩
  obtain ⟨wA, hwA⟩ : ∃ W, W = w.alloc (.cells #[.int .i64 r.num, .int .i64 r.zxid, .int .i64 r.err, .int .i64 r.at_, .slice au m cu] 26) := ⟨_, rfl⟩
  obtain ⟨w1, hw1⟩ : ∃ W, W = wA.alloc (.cells #[.int .i64 q.num, .int .i64 q.zxid, .int .i64 q.err, .int .i64 q.at_, .slice au' m' cu'] 26) := ⟨_, rfl⟩
  have hA : Below w.heap.size w wA := by rw [hwA]; exact (Below.refl _ w).alloc (Nat.le_refl _) _
  have hAs : wA.heap.size = w.heap.size + 1 := by rw [hwA, World.size_alloc]
  have h1A : Below wA.heap.size wA w1 := by rw [hw1]; exact (Below.refl _ wA).alloc (Nat.le_refl _) _
  have HB1 : Hid (Below w.heap.size w w1) := hA.trans (h1A.mono (by omega))
  have HX1 : Hid (BoxR w1 w.heap.size r (.slice au m cu) ∧ BoxR w1 q1 q (.slice au' m' cu')) := by
    refine ⟨?_, ?_⟩
    · have h : BoxR wA w.heap.size r (.slice au m cu) := by rw [hwA]; exact BoxR.made w r _ _
      exact h.below h1A
    · rw [hw1, hq1, ← hAs]
      exact BoxR.made wA q _ _
  clear hA hAs h1A
  unfold rv
  go_enter Try.func17, Try.ntmps17
  go_upto_region 1 with fail
  rw [← hq1, ← hwA, ← hw1]
  clear hq1 hwA hw1
  obtain ⟨c0, c1, c2, c3, c4⟩ := HX1.out.1
  obtain ⟨d0, d1, d2, d3, d4⟩ := HX1.out.2
  by_cases h1 : r.num = q.num
  rotate_left
  · have HNE : Hid (¬ r = q) := fun e => h1 (by rw [e])
    go_wp2
    go_ret
    exact ⟨false, rfl, ⟨fun h => (by cases h), fun h => absurd (HPP.out.1 h) HNE.out⟩, HB1.out⟩
  by_cases h2 : r.zxid = q.zxid
  rotate_left
  · have HNE : Hid (¬ r = q) := fun e => h2 (by rw [e])
    go_wp2
    go_ret
    exact ⟨false, rfl, ⟨fun h => (by cases h), fun h => absurd (HPP.out.1 h) HNE.out⟩, HB1.out⟩
  by_cases h3 : r.err = q.err
  rotate_left
  · have HNE : Hid (¬ r = q) := fun e => h3 (by rw [e])
    go_wp2
    go_ret
    exact ⟨false, rfl, ⟨fun h => (by cases h), fun h => absurd (HPP.out.1 h) HNE.out⟩, HB1.out⟩
  by_cases h4 : r.at_ = q.at_
  rotate_left
  · have HNE : Hid (¬ r = q) := fun e => h4 (by rw [e])
    go_wp2
    go_ret
    exact ⟨false, rfl, ⟨fun h => (by cases h), fun h => absurd (HPP.out.1 h) HNE.out⟩, HB1.out⟩
  have H1234 : Hid (r.num = q.num ∧ r.zxid = q.zxid ∧ r.err = q.err ∧ r.at_ = q.at_) := ⟨h1, h2, h3, h4⟩
  go_wp2_with fail
  refine (alike_spec (r.xs = q.xs) _ _ r.xs q.xs _ (HU.out.1.below HB1.out) (HU.out.2.1.below HB1.out) HU.out.2.2.2.2.1 HU.out.2.2.2.2.2 HU.out.2.2.1 HU.out.2.2.2.1 Iff.rfl).mono ?_
  rintro e w2 ⟨R, rfl, hR, hb⟩
  have HR : Hid (R = true ↔ r.xs = q.xs) := hR
  have HB2 : Hid (Below w.heap.size w w2) := HB1.out.trans (hb.mono HB1.out.size)
  clear hb hR c0 c1 c2 c3 c4 d0 d1 d2 d3 d4 h1 h2 h3 h4
  go_wp2
  go_ret
  exact ⟨R, rfl, ⟨fun h => HPP.out.2 (r_ext H1234.out.1 H1234.out.2.1 H1234.out.2.2.1 H1234.out.2.2.2 (HR.out.1 h)), fun h => HR.out.2 (by rw [HPP.out.1 h])⟩, HB2.out⟩

end Go.Proofs.Ytebmcjhhoionbaa
