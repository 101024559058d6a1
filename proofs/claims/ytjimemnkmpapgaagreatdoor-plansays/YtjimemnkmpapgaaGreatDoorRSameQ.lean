/- What the reference's Same answers. -/
import Derived.Test.YtjimemnkmpapgaaGreatDoorBox
import Derived.Test.YtjimemnkmpapgaaGreatDoorOpEq
namespace Go.Proofs.YtjimemnkmpapgaaGreatDoor
open Go.RowKit

set_option maxRecDepth 20000 in
set_option maxHeartbeats 4000000 in
theorem refSameQ_aux (P0 : Prop) (s n s' n' : Int) (u u' : Value) (os os' : List O) (w : World) (hu : Ol w u os) (hu' : Ol w u' os') (hl : os.length ≤ maxLen) (hP : P0 ↔ s = s' ∧ n = n' ∧ os = os') :
    Calls Tryz.prog 22 #[.agg #[.int .i64 s, .int .i64 n, u], .agg #[.int .i64 s', .int .i64 n', u']] w (BoolP P0 w) := by
  have HPP : Hid (P0 ↔ s = s' ∧ n = n' ∧ os = os') := hP
  clear hP
  have HU : Hid (Ol w u os) := hu
  have HU' : Hid (Ol w u' os') := hu'
  have HBX : Hid (Box3 ((w.alloc (.cells #[.int .i64 s, .int .i64 n, u] 55)).alloc (.cells #[.int .i64 s', .int .i64 n', u'] 55)) w.heap.size s n u) := (Box3.made w s n u _).below ((Below.refl _ _).alloc (Nat.le_refl _) _)
  have HBY : Hid (Box3 ((w.alloc (.cells #[.int .i64 s, .int .i64 n, u] 55)).alloc (.cells #[.int .i64 s', .int .i64 n', u'] 55)) (w.heap.size + 1) s' n' u') := by
    have h := Box3.made (w.alloc (.cells #[.int .i64 s, .int .i64 n, u] 55)) s' n' u' 55
    rw [World.size_alloc] at h
    exact h
  have HB0 : Hid (Below w.heap.size w ((w.alloc (.cells #[.int .i64 s, .int .i64 n, u] 55)).alloc (.cells #[.int .i64 s', .int .i64 n', u'] 55))) := ((Below.refl _ w).alloc (Nat.le_refl _) _).alloc (by simp) _
  obtain ⟨au, m, cu, rfl, hm, _⟩ := hu
  obtain ⟨au', m', cu', rfl, hm', _⟩ := hu'
  have HM : Hid (m = os.length ∧ m' = os'.length) := ⟨hm, hm'⟩
  have hm1 : m ≤ 9223372036854775807 := by unfold maxLen at hl; omega
  clear hm hm' hl
  go_enter Tryz.func22, Tryz.ntmps22
  go_upto_region 1 with fail
  generalize (w.alloc (.cells #[.int .i64 s, .int .i64 n, .slice au m cu] 55)).alloc (.cells #[.int .i64 s', .int .i64 n', .slice au' m' cu'] 55) = w1 at *
  obtain ⟨c0, c1, c2⟩ := HBX.out
  obtain ⟨d0, d1, d2⟩ := HBY.out
  by_cases h1 : s = s'
  · subst h1
    by_cases h2 : n = n'
    · subst h2
      by_cases h3 : m = m'
      · subst h3
        go_wp2
        go_loopw [5] (fun i wr => ∃ k : Nat, k ≤ m ∧ i = .int .i64 (k : Int) ∧ (∀ j : Nat, j < k → os[j]? = os'[j]?) ∧ Below w1.heap.size w1 wr) (fun i _ => ((m : Int) - intOf i).toNat)
        case atStart => exact ⟨0, Nat.zero_le _, rfl, fun j hj => by omega, Below.refl _ _⟩
        case round =>
          obtain ⟨k, hk, rfl, hsame, hb⟩ := hrel
          have HS : Hid (∀ j : Nat, j < k → os[j]? = os'[j]?) := hsame
          have HB1 : Hid (Below w1.heap.size w1 wr) := hb
          have HB : Hid (Below w.heap.size w wr) := HB0.out.trans (hb.mono HB0.out.size)
          have x2 := (HBX.out.below hb).c2
          have y2 := (HBY.out.below hb).c2
          clear hsame hb c0 c1 c2 d0 d1 d2
          by_cases hlt : k < m
          · have hlt' : (k : Int) < (m : Int) := by omega
            have hkl : k < os.length := by rw [← HM.out.1]; exact hlt
            have hkl' : k < os'.length := by rw [← HM.out.2]; exact hlt
            obtain ⟨g, b, c', hv', hcs⟩ := (HU.out.below HB.out).at (by omega)
            simp only [Value.slice.injEq] at hv'
            obtain ⟨rfl, hq, rfl⟩ := hv'
            obtain ⟨e0, e1, e2, e3, e4⟩ := hcs k os[k] (List.getElem?_eq_getElem hkl)
            obtain ⟨g', b', c'', hv'', hcs'⟩ := (HU'.out.below HB.out).at (by omega)
            simp only [Value.slice.injEq] at hv''
            obtain ⟨rfl, hq', rfl⟩ := hv''
            obtain ⟨f0, f1, f2, f3, f4⟩ := hcs' k os'[k] (List.getElem?_eq_getElem hkl')
            have HK : Hid (os[k]? = some os[k] ∧ os'[k]? = some os'[k]) := ⟨List.getElem?_eq_getElem hkl, List.getElem?_eq_getElem hkl'⟩
            generalize os[k] = o at *
            generalize os'[k] = o' at *
            clear hcs hcs' hq hq' hkl hkl'
            have HNQ : Hid (os = os' → o = o') := fun e => by
              have h1 := HK.out.1
              rw [e, HK.out.2] at h1
              exact (Option.some.inj h1).symm
            have hgd : ∀ q x y, (eqGuard .neq 38 x y (.agg #[.int .i64 o.kind, .string o.path, .string o.data, .int .i64 o.ver, .int .i64 o.flags]) (.agg #[.int .i64 o'.kind, .string o'.path, .string o'.data, .int .i64 o'.ver, .int .i64 o'.flags])).run Tryz.prog (wr.drewN q) = .ok () (wr.drewN q) := fun q x y => op_guard _ _ _ _ _ _
            by_cases q1 : o.kind = o'.kind
            rotate_left
            · have HNE : Hid (¬ os = os') := fun e => q1 (by rw [HNQ.out e])
              go_wp2
              go_quiet (fail)
              have HBW : Hid (Below w.heap.size w (wr.drewN nq)) := below_drewN HB.out nq
              generalize wr.drewN nq = w2 at *
              go_wp2
              go_ret
              exact ⟨false, rfl, ⟨fun h => (by cases h), fun h => absurd (HPP.out.1 h).2.2 HNE.out⟩, HBW.out⟩
            by_cases q2 : o.path.toList = o'.path.toList
            rotate_left
            · have HNE : Hid (¬ os = os') := fun e => q2 (by rw [HNQ.out e])
              go_wp2
              go_quiet (fail)
              have HBW : Hid (Below w.heap.size w (wr.drewN nq)) := below_drewN HB.out nq
              generalize wr.drewN nq = w2 at *
              go_wp2
              go_ret
              exact ⟨false, rfl, ⟨fun h => (by cases h), fun h => absurd (HPP.out.1 h).2.2 HNE.out⟩, HBW.out⟩
            by_cases q3 : o.data.toList = o'.data.toList
            rotate_left
            · have HNE : Hid (¬ os = os') := fun e => q3 (by rw [HNQ.out e])
              go_wp2
              go_quiet (fail)
              have HBW : Hid (Below w.heap.size w (wr.drewN nq)) := below_drewN HB.out nq
              generalize wr.drewN nq = w2 at *
              go_wp2
              go_ret
              exact ⟨false, rfl, ⟨fun h => (by cases h), fun h => absurd (HPP.out.1 h).2.2 HNE.out⟩, HBW.out⟩
            by_cases q4 : o.ver = o'.ver
            rotate_left
            · have HNE : Hid (¬ os = os') := fun e => q4 (by rw [HNQ.out e])
              go_wp2
              go_quiet (fail)
              have HBW : Hid (Below w.heap.size w (wr.drewN nq)) := below_drewN HB.out nq
              generalize wr.drewN nq = w2 at *
              go_wp2
              go_ret
              exact ⟨false, rfl, ⟨fun h => (by cases h), fun h => absurd (HPP.out.1 h).2.2 HNE.out⟩, HBW.out⟩
            by_cases q5 : o.flags = o'.flags
            rotate_left
            · have HNE : Hid (¬ os = os') := fun e => q5 (by rw [HNQ.out e])
              go_wp2
              go_quiet (fail)
              have HBW : Hid (Below w.heap.size w (wr.drewN nq)) := below_drewN HB.out nq
              generalize wr.drewN nq = w2 at *
              go_wp2
              go_ret
              exact ⟨false, rfl, ⟨fun h => (by cases h), fun h => absurd (HPP.out.1 h).2.2 HNE.out⟩, HBW.out⟩
            have HS2 : Hid (∀ j : Nat, j < k + 1 → os[j]? = os'[j]?) := fun j hj => by
              by_cases hjk : j < k
              · exact HS.out j hjk
              · obtain rfl : j = k := by omega
                rw [HK.out.1, HK.out.2, (same_iff o o').1 (by unfold sameO; rw [q1, q2, q3, q4, q5]; simp)]
            go_wp2
            go_quiet (fail)
            have HB2 : Hid (Below w1.heap.size w1 (wr.drewN nq)) := below_drewN HB1.out nq
            generalize wr.drewN nq = w2 at *
            go_wp2
            go_roundw
            case rel => exact ⟨k + 1, by omega, by go_num, HS2.out, HB2.out⟩
            case measure => simp [intOf]; omega
          · have hlt' : ¬ (k : Int) < (m : Int) := by omega
            have HEQ : Hid (os = os') := by
              have h : os = os' := by
                apply List.ext_getElem?
                intro j
                by_cases hj : j < k
                · exact HS.out j hj
                · rw [List.getElem?_eq_none (by rw [← HM.out.1]; omega), List.getElem?_eq_none (by rw [← HM.out.2]; omega)]
              exact h
            go_wp2
            go_ret
            exact ⟨true, rfl, ⟨fun _ => HPP.out.2 ⟨by trivial, by trivial, HEQ.out⟩, fun _ => rfl⟩, HB.out⟩
      · have h3' : ¬ (m : Int) = (m' : Int) := by omega
        have HNE : Hid (¬ os = os') := fun e => h3 (by rw [HM.out.1, HM.out.2, e])
        clear h3
        go_wp2
        go_ret
        exact ⟨false, rfl, ⟨fun h => (by cases h), fun h => absurd (HPP.out.1 h).2.2 HNE.out⟩, HB0.out⟩
    · have HNE : Hid (¬ n = n') := h2
      go_wp2
      go_ret
      exact ⟨false, rfl, ⟨fun h => (by cases h), fun h => absurd (HPP.out.1 h).2.1 HNE.out⟩, HB0.out⟩
  · have HNE : Hid (¬ s = s') := h1
    go_wp2
    go_ret
    exact ⟨false, rfl, ⟨fun h => (by cases h), fun h => absurd (HPP.out.1 h).1 HNE.out⟩, HB0.out⟩

theorem refSameQ_any (s n s' n' : Int) (u u' : Value) (os os' : List O) (w : World) (hu : Ol w u os) (hu' : Ol w u' os') (hl : os.length ≤ maxLen) :
    Calls Tryz.prog 22 #[.agg #[.int .i64 s, .int .i64 n, u], .agg #[.int .i64 s', .int .i64 n', u']] w (BoolP (s = s' ∧ n = n' ∧ os = os') w) :=
  refSameQ_aux _ s n s' n' u u' os os' w hu hu' hl Iff.rfl
end Go.Proofs.YtjimemnkmpapgaaGreatDoor
