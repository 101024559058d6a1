/- What the reference's One, All and SameReply answer. -/
import Derived.Test.YtebmcjhhoionbaaRPutR
import Derived.Test.YtebmcjhhoionbaaSame6
namespace Go.Proofs.Ytebmcjhhoionbaa
open Go.RowKit

set_option maxRecDepth 20000 in
set_option maxHeartbeats 4000000 in
theorem refOne_any (P0 : Prop) (x y : X) (nv mv : Value) (w : World) (hx : Sq w nv x.names) (hy : Sq w mv y.names) (hxl : x.names.length ≤ 1000) (hyl : y.names.length ≤ 1000) (hP : P0 ↔ x = y) :
    Calls Try.prog 33 #[.agg #[.int .i64 x.err, .string x.path, .string x.data, nv, .int .i64 x.made, .int .i64 x.changed, .int .i64 x.ver, .int .i64 x.kids, .int .i64 x.owner, .int .i64 x.len, .int .i64 x.cnt], .agg #[.int .i64 y.err, .string y.path, .string y.data, mv, .int .i64 y.made, .int .i64 y.changed, .int .i64 y.ver, .int .i64 y.kids, .int .i64 y.owner, .int .i64 y.len, .int .i64 y.cnt]] w (BoolP P0 w) := by
  have HPP : Hid (P0 ↔ x = y) := hP
  have HN : Hid (Sq w nv x.names ∧ Sq w mv y.names ∧ x.names.length ≤ 1000 ∧ y.names.length ≤ 1000) := ⟨hx, hy, hxl, hyl⟩
  obtain ⟨an, kn, cn, rfl, hX⟩ := hx
  obtain ⟨am, km, cm, rfl, hY⟩ := hy
  clear hX hY hxl hyl hP
  obtain ⟨q1, hq1⟩ : ∃ q, q = w.heap.size + 1 := ⟨_, rfl⟩
  obtain ⟨wA, hwA⟩ : ∃ W, W = w.alloc (.cells #[.int .i64 x.err, .string x.path, .string x.data, .slice an kn cn, .int .i64 x.made, .int .i64 x.changed, .int .i64 x.ver, .int .i64 x.kids, .int .i64 x.owner, .int .i64 x.len, .int .i64 x.cnt] 35) := ⟨_, rfl⟩
  obtain ⟨w1, hw1⟩ : ∃ W, W = wA.alloc (.cells #[.int .i64 y.err, .string y.path, .string y.data, .slice am km cm, .int .i64 y.made, .int .i64 y.changed, .int .i64 y.ver, .int .i64 y.kids, .int .i64 y.owner, .int .i64 y.len, .int .i64 y.cnt] 35) := ⟨_, rfl⟩
  have hA : Below w.heap.size w wA := by rw [hwA]; exact (Below.refl _ w).alloc (Nat.le_refl _) _
  have hAs : wA.heap.size = w.heap.size + 1 := by rw [hwA, World.size_alloc]
  have h1A : Below wA.heap.size wA w1 := by rw [hw1]; exact (Below.refl _ wA).alloc (Nat.le_refl _) _
  have HB1 : Hid (Below w.heap.size w w1) := hA.trans (h1A.mono (by omega))
  have HX1 : Hid (BoxX w1 w.heap.size x (.slice an kn cn) ∧ BoxX w1 q1 y (.slice am km cm)) := by
    refine ⟨?_, ?_⟩
    · have h : BoxX wA w.heap.size x (.slice an kn cn) := by rw [hwA]; exact BoxX.made w x _ _
      exact h.below h1A
    · rw [hw1, hq1, ← hAs]
      exact BoxX.made wA y _ _
  clear hA hAs h1A
  go_enter Try.func33, Try.ntmps33
  go_upto_region 1 with fail
  rw [← hq1, ← hwA, ← hw1]
  clear hq1 hwA hw1
  obtain ⟨c0, c1, c2, c3, c4, c5, c6, c7, c8, c9, c10⟩ := HX1.out.1
  obtain ⟨d0, d1, d2, d3, d4, d5, d6, d7, d8, d9, d10⟩ := HX1.out.2
  by_cases h1 : x.err = y.err
  rotate_left
  · have HNE : Hid (¬ x = y) := fun e => h1 (by rw [e])
    go_wp2
    go_ret
    exact ⟨false, rfl, ⟨fun h => (by cases h), fun h => absurd (HPP.out.1 h) HNE.out⟩, HB1.out⟩
  by_cases h2 : x.path.toList = y.path.toList
  rotate_left
  · have HNE : Hid (¬ x = y) := fun e => h2 (by rw [e])
    go_wp2
    go_ret
    exact ⟨false, rfl, ⟨fun h => (by cases h), fun h => absurd (HPP.out.1 h) HNE.out⟩, HB1.out⟩
  by_cases h3 : x.data.toList = y.data.toList
  rotate_left
  · have HNE : Hid (¬ x = y) := fun e => h3 (by rw [e])
    go_wp2
    go_ret
    exact ⟨false, rfl, ⟨fun h => (by cases h), fun h => absurd (HPP.out.1 h) HNE.out⟩, HB1.out⟩
  have H123 : Hid (x.err = y.err ∧ x.path.toList = y.path.toList ∧ x.data.toList = y.data.toList) := ⟨h1, h2, h3⟩
  go_wp2_with fail
  refine (Pw.same_any _ _ x.names y.names _ (HN.out.1.ss.below HB1.out) (HN.out.2.1.ss.below HB1.out) HN.out.2.2.1 HN.out.2.2.2).mono ?_
  rintro e w2 ⟨rfl, hb⟩
  have HB2 : Hid (Below w.heap.size w w2) := HB1.out.trans (hb.mono HB1.out.size)
  have HX2 : Hid (BoxX w2 w.heap.size x (.slice an kn cn) ∧ BoxX w2 q1 y (.slice am km cm)) := ⟨HX1.out.1.below hb, HX1.out.2.below hb⟩
  clear hb c0 c1 c2 c3 c4 c5 c6 c7 c8 c9 c10 d0 d1 d2 d3 d4 d5 d6 d7 d8 d9 d10 h1 h2 h3
  obtain ⟨C, hC⟩ : ∃ C, C = decide (x.names = y.names) := ⟨_, rfl⟩
  have HC : Hid (C = decide (x.names = y.names)) := hC
  rw [← hC]
  clear hC
  cases C with
  | false =>
    have HNE : Hid (¬ x = y) := fun e => by
      have h := HC.out
      rw [decide_eq_true (by rw [e])] at h
      cases h
    go_wp2
    go_ret
    exact ⟨false, rfl, ⟨fun h => (by cases h), fun h => absurd (HPP.out.1 h) HNE.out⟩, HB2.out⟩
  | true =>
    obtain ⟨c0, c1, c2, c3, c4, c5, c6, c7, c8, c9, c10⟩ := HX2.out.1
    obtain ⟨d0, d1, d2, d3, d4, d5, d6, d7, d8, d9, d10⟩ := HX2.out.2
    obtain ⟨E, hE⟩ : ∃ E, E = sameS x y := ⟨_, rfl⟩
    have HE : Hid (E = true ↔ x = y) := by
      have h : E = true ↔ x = y := by
        rw [hE]
        constructor
        · intro h
          exact x_ext H123.out.1 H123.out.2.1 H123.out.2.2 (of_decide_eq_true HC.out.symm) h
        · intro h
          rw [h]
          exact sameS_refl y
      exact h
    have heq : ∀ W, (binOp .eql 33 (.agg #[.int .i64 x.made, .int .i64 x.changed, .int .i64 x.ver, .int .i64 x.kids, .int .i64 x.owner, .int .i64 x.len, .int .i64 x.cnt]) (.agg #[.int .i64 y.made, .int .i64 y.changed, .int .i64 y.ver, .int .i64 y.kids, .int .i64 y.owner, .int .i64 y.len, .int .i64 y.cnt])).run Try.prog W = .ok (.bool E) W := fun W => by rw [hE]; exact stat_eql x y W
    have hgd : ∀ a b W, (eqGuard .eql 33 a b (.agg #[.int .i64 x.made, .int .i64 x.changed, .int .i64 x.ver, .int .i64 x.kids, .int .i64 x.owner, .int .i64 x.len, .int .i64 x.cnt]) (.agg #[.int .i64 y.made, .int .i64 y.changed, .int .i64 y.ver, .int .i64 y.kids, .int .i64 y.owner, .int .i64 y.len, .int .i64 y.cnt])).run Try.prog W = .ok () W := fun a b W => stat_guard _ _ _ _ _ _
    clear hE
    go_wp2
    go_ret
    exact ⟨E, rfl, ⟨fun h => HPP.out.2 (HE.out.1 h), fun h => HE.out.2 (HPP.out.1 h)⟩, HB2.out⟩

set_option maxRecDepth 20000 in
set_option maxHeartbeats 4000000 in
theorem refAll_any (P0 : Prop) (u u' : Value) (xs ys : List X) (w : World) (hu : Rl w u xs) (hu' : Rl w u' ys) (hl : xs.length ≤ maxLen) (hl' : ys.length ≤ maxLen) (hx : Few xs) (hy : Few ys) (hP : P0 ↔ xs = ys) :
    Calls Try.prog 19 #[u, u'] w (BoolP P0 w) := by
  have HPP : Hid (P0 ↔ xs = ys) := hP
  have HU : Hid (Rl w u xs ∧ Rl w u' ys ∧ Few xs ∧ Few ys) := ⟨hu, hu', hx, hy⟩
  obtain ⟨au, m, cu, rfl, hm, hX⟩ := hu
  obtain ⟨au', m', cu', rfl, hm', hX'⟩ := hu'
  have HM : Hid (m = xs.length ∧ m' = ys.length) := ⟨hm, hm'⟩
  have hm1 : m ≤ 9223372036854775807 := by unfold maxLen at hl; omega
  have hm2 : m' ≤ 9223372036854775807 := by unfold maxLen at hl'; omega
  clear hm hm' hl hl' hX hX' hx hy hP
  go_enter Try.func19, Try.ntmps19
  by_cases h3 : m = m'
  · subst h3
    go_wp2
    go_loopw [5] (fun i wr => ∃ k : Nat, k ≤ m ∧ i = .int .i64 (k : Int) ∧ (∀ j : Nat, j < k → xs[j]? = ys[j]?) ∧ Below w.heap.size w wr) (fun i _ => ((m : Int) - intOf i).toNat)
    case atStart => exact ⟨0, Nat.zero_le _, rfl, fun j hj => by omega, Below.refl _ _⟩
    case round =>
      obtain ⟨k, hk, rfl, hsame, hb⟩ := hrel
      have HS : Hid (∀ j : Nat, j < k → xs[j]? = ys[j]?) := hsame
      have HB : Hid (Below w.heap.size w wr) := hb
      clear hsame hb
      by_cases hlt : k < m
      · have hlt' : (k : Int) < (m : Int) := by omega
        have hkl : k < xs.length := by rw [← HM.out.1]; exact hlt
        have hkl' : k < ys.length := by rw [← HM.out.2]; exact hlt
        obtain ⟨g, b, c', hv', hcc, hcs⟩ := (HU.out.1.below HB.out).at (by omega)
        simp only [Value.slice.injEq] at hv'
        obtain ⟨rfl, hq, rfl⟩ := hv'
        obtain ⟨nv, hnv, hat⟩ := hcs k xs[k] (List.getElem?_eq_getElem hkl)
        obtain ⟨g', b', c'', hv'', hcc', hcs'⟩ := (HU.out.2.1.below HB.out).at (by omega)
        simp only [Value.slice.injEq] at hv''
        obtain ⟨rfl, hq', rfl⟩ := hv''
        obtain ⟨mv, hmv, hat'⟩ := hcs' k ys[k] (List.getElem?_eq_getElem hkl')
        have HK : Hid (xs[k]? = some xs[k] ∧ ys[k]? = some ys[k] ∧ xs[k].names.length ≤ 1000 ∧ ys[k].names.length ≤ 1000) := ⟨List.getElem?_eq_getElem hkl, List.getElem?_eq_getElem hkl', HU.out.2.2.1 _ (List.getElem_mem hkl), HU.out.2.2.2 _ (List.getElem_mem hkl')⟩
        generalize xs[k] = x at *
        generalize ys[k] = y at *
        clear hcs hcs' hq hq' hkl hkl' hcc hcc'
        have HNV : Hid (Sq wr nv x.names ∧ Sq wr mv y.names) := ⟨hnv, hmv⟩
        obtain ⟨an, kn, cn, rfl, hY1⟩ := hnv
        obtain ⟨am, km, cm, rfl, hY2⟩ := hmv
        clear hY1 hY2
        have kk := And.intro hat.all hat'.all
        have HAT : Hid (At11 wr g (b + k * 11) x (.slice an kn cn) ∧ At11 wr g' (b' + k * 11) y (.slice am km cm)) := ⟨hat, hat'⟩
        clear hat hat'
        go_wp2
        go_region_held3 (fun w' => (w'.cell? ⟨g, b + k * 11, none⟩ = some (.int .i64 x.err) ∧ w'.cell? ⟨g, b + k * 11 + 1, none⟩ = some (.string x.path) ∧ w'.cell? ⟨g, b + k * 11 + 2, none⟩ = some (.string x.data) ∧ w'.cell? ⟨g, b + k * 11 + 3, none⟩ = some (.slice an kn cn) ∧ w'.cell? ⟨g, b + k * 11 + 4, none⟩ = some (.int .i64 x.made) ∧ w'.cell? ⟨g, b + k * 11 + 5, none⟩ = some (.int .i64 x.changed) ∧ w'.cell? ⟨g, b + k * 11 + 6, none⟩ = some (.int .i64 x.ver) ∧ w'.cell? ⟨g, b + k * 11 + 7, none⟩ = some (.int .i64 x.kids) ∧ w'.cell? ⟨g, b + k * 11 + 8, none⟩ = some (.int .i64 x.owner) ∧ w'.cell? ⟨g, b + k * 11 + 9, none⟩ = some (.int .i64 x.len) ∧ w'.cell? ⟨g, b + k * 11 + 10, none⟩ = some (.int .i64 x.cnt)) ∧ (w'.cell? ⟨g', b' + k * 11, none⟩ = some (.int .i64 y.err) ∧ w'.cell? ⟨g', b' + k * 11 + 1, none⟩ = some (.string y.path) ∧ w'.cell? ⟨g', b' + k * 11 + 2, none⟩ = some (.string y.data) ∧ w'.cell? ⟨g', b' + k * 11 + 3, none⟩ = some (.slice am km cm) ∧ w'.cell? ⟨g', b' + k * 11 + 4, none⟩ = some (.int .i64 y.made) ∧ w'.cell? ⟨g', b' + k * 11 + 5, none⟩ = some (.int .i64 y.changed) ∧ w'.cell? ⟨g', b' + k * 11 + 6, none⟩ = some (.int .i64 y.ver) ∧ w'.cell? ⟨g', b' + k * 11 + 7, none⟩ = some (.int .i64 y.kids) ∧ w'.cell? ⟨g', b' + k * 11 + 8, none⟩ = some (.int .i64 y.owner) ∧ w'.cell? ⟨g', b' + k * 11 + 9, none⟩ = some (.int .i64 y.len) ∧ w'.cell? ⟨g', b' + k * 11 + 10, none⟩ = some (.int .i64 y.cnt))) (first | exact kk | exact kk2) (first | (go_at_call 33; refine (refOne_any (x = y) x y _ _ _ (HNV.out.1.below (Below.refl _ _).drew) (HNV.out.2.below (Below.refl _ _).drew) HK.out.2.2.1 HK.out.2.2.2 Iff.rfl).mono ?_; rintro e w2 ⟨R, rfl, hR, hb0⟩; have hb := below_drew hb0; have HR : Hid (R = true ↔ x = y) := hR; have HB2 : Hid (Below w.heap.size w w2) := HB.out.trans (hb.mono HB.out.size); have kk2 := And.intro (HAT.out.1.below hb).all (HAT.out.2.below hb).all; clear hR hb hb0))
        clear kk kk2
        cases R with
        | false =>
          have HNE : Hid (¬ xs = ys) := fun e => by
            have h1 := HK.out.1
            rw [e, HK.out.2.1] at h1
            have := HR.out.2 (Option.some.inj h1).symm
            cases this
          go_wp2
          go_ret
          exact ⟨false, rfl, ⟨fun h => (by cases h), fun h => absurd (HPP.out.1 h) HNE.out⟩, HB2.out⟩
        | true =>
          have HS2 : Hid (∀ j : Nat, j < k + 1 → xs[j]? = ys[j]?) := fun j hj => by
            by_cases hjk : j < k
            · exact HS.out j hjk
            · obtain rfl : j = k := by omega
              rw [HK.out.1, HK.out.2.1, HR.out.1 rfl]
          go_wp2
          go_roundw
          case rel => exact ⟨k + 1, by omega, by go_num, HS2.out, HB2.out⟩
          case measure => simp [intOf]; omega
      · have hlt' : ¬ (k : Int) < (m : Int) := by omega
        have HEQ : Hid (xs = ys) := by
          have h : xs = ys := by
            apply List.ext_getElem?
            intro j
            by_cases hj : j < k
            · exact HS.out j hj
            · rw [List.getElem?_eq_none (by rw [← HM.out.1]; omega), List.getElem?_eq_none (by rw [← HM.out.2]; omega)]
          exact h
        go_wp2
        go_ret
        exact ⟨true, rfl, ⟨fun _ => HPP.out.2 HEQ.out, fun _ => rfl⟩, HB.out⟩
  · have h3' : ¬ (m : Int) = (m' : Int) := by omega
    have HNE : Hid (¬ xs = ys) := fun e => h3 (by rw [HM.out.1, HM.out.2, e])
    clear h3
    go_wp2
    go_ret
    exact ⟨false, rfl, ⟨fun h => (by cases h), fun h => absurd (HPP.out.1 h) HNE.out⟩, Below.refl _ _⟩

set_option maxRecDepth 20000 in
set_option maxHeartbeats 4000000 in
theorem refSameR_any (P0 : Prop) (r q : Rp) (u u' : Value) (w : World) (hu : Rl w u r.xs) (hu' : Rl w u' q.xs) (hl : r.xs.length ≤ maxLen) (hl' : q.xs.length ≤ maxLen) (hx : Few r.xs) (hy : Few q.xs) (hP : P0 ↔ r = q) :
    Calls Try.prog 18 #[rv r u, rv q u'] w (BoolP P0 w) := by
  have HPP : Hid (P0 ↔ r = q) := hP
  have HU : Hid (Rl w u r.xs ∧ Rl w u' q.xs ∧ Few r.xs ∧ Few q.xs ∧ r.xs.length ≤ maxLen ∧ q.xs.length ≤ maxLen) := ⟨hu, hu', hx, hy, hl, hl'⟩
  obtain ⟨au, m, cu, rfl, hX⟩ := hu
  obtain ⟨au', m', cu', rfl, hX'⟩ := hu'
  clear hX hX' hx hy hl hl' hP
  obtain ⟨q1, hq1⟩ : ∃ q, q = w.heap.size + 1 := ⟨_, rfl⟩
  obtain ⟨wA, hwA⟩ : ∃ W, W = w.alloc (.cells #[.int .i64 r.num, .int .i64 r.zxid, .int .i64 r.err, .int .i64 r.at_, .slice au m cu] 40) := ⟨_, rfl⟩
  obtain ⟨w1, hw1⟩ : ∃ W, W = wA.alloc (.cells #[.int .i64 q.num, .int .i64 q.zxid, .int .i64 q.err, .int .i64 q.at_, .slice au' m' cu'] 40) := ⟨_, rfl⟩
  have hA : Below w.heap.size w wA := by rw [hwA]; exact (Below.refl _ w).alloc (Nat.le_refl _) _
  have hAs : wA.heap.size = w.heap.size + 1 := by rw [hwA, World.size_alloc]
  have h1A : Below wA.heap.size wA w1 := by rw [hw1]; exact (Below.refl _ wA).alloc (Nat.le_refl _) _
  have HB1 : Hid (Below w.heap.size w w1) := hA.trans (h1A.mono (by omega))
  have HX1 : Hid (BoxR w1 w.heap.size r (.slice au m cu) ∧ BoxR w1 q1 q (.slice au' m' cu')) := by
    refine ⟨?_, ?_⟩
    · have h : BoxR wA w.heap.size r (.slice au m cu) := by rw [hwA]; exact BoxR.made w r _ _
      exact h.below h1A
    · rw [hw1, hq1, ← hAs]
      exact BoxR.made wA q _ _
  clear hA hAs h1A
  unfold rv
  go_enter Try.func18, Try.ntmps18
  go_upto_region 1 with fail
  rw [← hq1, ← hwA, ← hw1]
  clear hq1 hwA hw1
  obtain ⟨c0, c1, c2, c3, c4⟩ := HX1.out.1
  obtain ⟨d0, d1, d2, d3, d4⟩ := HX1.out.2
  by_cases h1 : r.num = q.num
  rotate_left
  · have HNE : Hid (¬ r = q) := fun e => h1 (by rw [e])
    go_wp2
    go_ret
    exact ⟨false, rfl, ⟨fun h => (by cases h), fun h => absurd (HPP.out.1 h) HNE.out⟩, HB1.out⟩
  by_cases h2 : r.zxid = q.zxid
  rotate_left
  · have HNE : Hid (¬ r = q) := fun e => h2 (by rw [e])
    go_wp2
    go_ret
    exact ⟨false, rfl, ⟨fun h => (by cases h), fun h => absurd (HPP.out.1 h) HNE.out⟩, HB1.out⟩
  by_cases h3 : r.err = q.err
  rotate_left
  · have HNE : Hid (¬ r = q) := fun e => h3 (by rw [e])
    go_wp2
    go_ret
    exact ⟨false, rfl, ⟨fun h => (by cases h), fun h => absurd (HPP.out.1 h) HNE.out⟩, HB1.out⟩
  by_cases h4 : r.at_ = q.at_
  rotate_left
  · have HNE : Hid (¬ r = q) := fun e => h4 (by rw [e])
    go_wp2
    go_ret
    exact ⟨false, rfl, ⟨fun h => (by cases h), fun h => absurd (HPP.out.1 h) HNE.out⟩, HB1.out⟩
  have H1234 : Hid (r.num = q.num ∧ r.zxid = q.zxid ∧ r.err = q.err ∧ r.at_ = q.at_) := ⟨h1, h2, h3, h4⟩
  go_wp2_with fail
  refine (refAll_any (r.xs = q.xs) _ _ r.xs q.xs _ (HU.out.1.below HB1.out) (HU.out.2.1.below HB1.out) HU.out.2.2.2.2.1 HU.out.2.2.2.2.2 HU.out.2.2.1 HU.out.2.2.2.1 Iff.rfl).mono ?_
  rintro e w2 ⟨R, rfl, hR, hb⟩
  have HR : Hid (R = true ↔ r.xs = q.xs) := hR
  have HB2 : Hid (Below w.heap.size w w2) := HB1.out.trans (hb.mono HB1.out.size)
  clear hb hR c0 c1 c2 c3 c4 d0 d1 d2 d3 d4 h1 h2 h3 h4
  go_wp2
  go_ret
  exact ⟨R, rfl, ⟨fun h => HPP.out.2 (r_ext H1234.out.1 H1234.out.2.1 H1234.out.2.2.1 H1234.out.2.2.2 (HR.out.1 h)), fun h => HR.out.2 (by rw [HPP.out.1 h])⟩, HB2.out⟩

/-- The statements' own rp: the same reply. -/
theorem rp_any (r : Rp) (u : Value) (w : World) (hu : Rl w u r.xs) :
    Calls Try.prog 16 #[rv r u] w fun e w' => e = .returned (rv r u) ∧ Below w.heap.size w w' := by
  obtain ⟨au, m, cu, rfl, hx⟩ := hu
  clear hx
  unfold rv
  go_enter Try.func16, Try.ntmps16
  go_wp2
  refine bodyPost_ret (v := .agg #[.int .i64 r.num, .int .i64 r.zxid, .int .i64 r.err, .int .i64 r.at_, .slice au m cu]) (by simp [results, Try.results16, go_sem]; try rfl) rfl ⟨rfl, ?_⟩
  exact ((Below.refl _ w).alloc (Nat.le_refl _) _).alloc (by simp) _
end Go.Proofs.Ytebmcjhhoionbaa
