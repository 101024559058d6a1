/- Library calls over lists of Ops: slices.ContainsFunc with reads or writes, slices.Equal; what op.Writes and op.Same answer. -/
import Derived.Test.YtjimemnkmpapgaaGreatDoorSpecs5
import Derived.Test.YtjimemnkmpapgaaGreatDoorOpEq
import Derived.Test.YtjimemnkmpapgaaGreatDoorShelf
namespace Go.Proofs.YtjimemnkmpapgaaGreatDoor
open Go.RowKit Go.Shelf

/-- An Op there is. -/
abbrev inhO : Inhabited O := ⟨⟨0, ⟨#[]⟩, ⟨#[]⟩, 0, 0⟩⟩

set_option maxRecDepth 20000 in
set_option maxHeartbeats 1000000 in
theorem reads_any (o : O) (w : World) :
    Calls Tryz.prog 55 #[ov o] w fun e w' => e = .returned (.bool (decide (o.kind = 5) || decide (o.kind = 6) || decide (o.kind = 7))) ∧ Below w.heap.size w w' := by
  have HBX : Hid (Box5 (w.alloc (.cells #[.int .i64 o.kind, .string o.path, .string o.data, .int .i64 o.ver, .int .i64 o.flags] 38)) w.heap.size o) := Box5.made w o _
  have HB0 : Hid (Below w.heap.size w (w.alloc (.cells #[.int .i64 o.kind, .string o.path, .string o.data, .int .i64 o.ver, .int .i64 o.flags] 38))) := (Below.refl _ w).alloc (Nat.le_refl _) _
  obtain ⟨K, p, d, V, F⟩ := o
  simp only [] at HBX HB0 ⊢
  unfold ov
  go_enter Tryz.func55, Tryz.ntmps55
  go_upto_region 1 with fail
  generalize w.alloc (.cells #[.int .i64 K, .string p, .string d, .int .i64 V, .int .i64 F] 38) = w1 at *
  obtain ⟨c0, c1, c2, c3, c4⟩ := HBX.out
  simp only [] at c0 c1 c2 c3 c4
  clear c1 c2 c3 c4 HBX
  have hkk : K = 5 ∨ K = 6 ∨ K = 7 ∨ (¬ K = 5 ∧ ¬ K = 6 ∧ ¬ K = 7) := by omega
  rcases hkk with rfl | rfl | rfl | ⟨k5, k6, k7⟩
  all_goals
    go_wp2
    go_ret
    exact ⟨by first | rfl | simp | simp [k5, k6, k7], HB0.out⟩

set_option maxRecDepth 20000 in
set_option maxHeartbeats 1000000 in
theorem indexFunc_none (a : Option Addr) (c : Nat) (fv : Value) (w : World) :
    Calls Tryz.prog 76 #[.slice a 0 c, fv] w fun e w' => e = .returned (.int .i64 (-1)) ∧ w' = w := by
  go_enter Tryz.func76, Tryz.ntmps76
  go_wp2
  go_loopg [5, 8] 0 (fun _ _ s8 wr => s8 = .int .i64 0 ∧ wr = w)
  case atStart => exact ⟨rfl, rfl⟩
  case round =>
    obtain ⟨rfl, rfl⟩ := hrel
    go_wp2
    go_ret
    exact ⟨rfl, rfl⟩

set_option maxRecDepth 20000 in
set_option maxHeartbeats 1000000 in
theorem containsFunc_none (a : Option Addr) (c : Nat) (fv : Value) (w : World) :
    Calls Tryz.prog 54 #[.slice a 0 c, fv] w fun e w' => e = .returned (.bool false) ∧ w' = w := by
  go_enter Tryz.func54, Tryz.ntmps54
  go_wp2_with (go_at_call 76; refine (indexFunc_none a c fv _).mono ?_; rintro e w' ⟨rfl, rfl⟩)
  go_ret
  exact ⟨rfl, rfl⟩

/-- The cells of Ops in the library's words. -/
theorem Ol.cells {w : World} {v : Value} {os : List O} (h : Ol w v os) (h0 : 0 < os.length) : ∃ g b c, v = .slice (some ⟨g, b, none⟩) os.length c ∧ g < w.heap.size ∧ ∀ (j : Nat) (_ : j < os.length) (i : Nat) x, (oc (@getElem! (List O) Nat O _ _ inhO os j))[i]? = some x → w.cell? ⟨g, b + j * 5 + i, none⟩ = some x := by
  letI := inhO
  obtain ⟨av, k, c, rfl, hk, hc, hn, hs⟩ := h
  obtain ⟨g, b, rfl, hcell⟩ := hs 0 os[0] (List.getElem?_eq_getElem h0)
  have hlt := World.block_lt_of_cell? w _ (hcell 0 _ rfl)
  refine ⟨g, b, c, by rw [hk], hlt, fun j hj i x hx => ?_⟩
  rw [show (@getElem! (List O) Nat O _ _ inhO os j) = os[j] from getElem!_pos os j hj] at hx
  obtain ⟨g', b', e, hcell'⟩ := hs j os[j] (List.getElem?_eq_getElem hj)
  simp only [Option.some.injEq, Addr.mk.injEq, and_true] at e
  obtain ⟨rfl, rfl⟩ := e
  have := hcell' i x hx
  rw [← Nat.add_assoc] at this
  exact this

/-- slices.ContainsFunc over Ops, with a function of the program's that makes nothing but new memory. -/
theorem containsFunc_any (g : Nat) (p : O → Bool) (eg : ∀ args w, (callFunc g args).run Tryz.prog w = .ok (.enter g args) w) (hp : ∀ (o : O) (w : World), Calls Tryz.prog g #[ov o] w fun e w' => e = .returned (.bool (p o)) ∧ Below w.heap.size w w')
    (u : Value) (os : List O) (w : World) (hu : Ol w u os) (hl : os.length ≤ maxLen) :
    Calls Tryz.prog 54 #[u, .func (.func g) #[] #[]] w fun e w' => e = .returned (.bool (os.any p)) ∧ Below w.heap.size w w' := by
  rcases Nat.eq_zero_or_pos os.length with h0 | h0
  · obtain ⟨av, k, c, rfl, hk, _⟩ := hu
    obtain rfl : os = [] := List.eq_nil_of_length_eq_zero h0
    obtain rfl : k = 0 := hk
    refine (containsFunc_none av c _ w).mono ?_
    rintro e w' ⟨rfl, rfl⟩
    exact ⟨rfl, Below.refl _ _⟩
  · obtain ⟨gb, b, c, rfl, hlt, hcs⟩ := hu.cells h0
    have hpb : PredBelow Tryz.prog g #[] (fun x => .agg (oc x).toArray) p w := fun W x hb => (hp x W).mono fun e w' ⟨h1, h2⟩ => ⟨h1, hb.trans (h2.mono hb.size)⟩
    have h := @Tryz.slices_ContainsFunc_Op O inhO 5 Tryz.isAgg38 Tryz.sizeOf38 oc (fun _ => rfl) p g #[] eg gb b os.length c os w hpb (Nat.le_refl _) (by unfold maxLen at hl; exact hl) hlt hcs
    rw [List.take_length] at h
    exact h

theorem op_neqAt : NeqAt Tryz.prog 38 (fun x => .agg (oc x).toArray) sameO := ⟨fun x y w => op_neq x y w, GuardAt.agg _ (by kernel_rfl)⟩

theorem allEq_same : ∀ (xs ys : List O), Lib.allEq sameO xs ys = true ↔ xs = ys
  | [], [] => by simp [Lib.allEq]
  | [], _ :: _ => by simp [Lib.allEq]
  | _ :: _, [] => by simp [Lib.allEq]
  | x :: xs, y :: ys => by
    rw [Lib.allEq, Bool.and_eq_true, same_iff, allEq_same xs ys]
    simp

set_option maxRecDepth 20000 in
set_option maxHeartbeats 1000000 in
theorem equal_none (a a' : Option Addr) (m m' c c' : Nat) (w : World) (h : m ≠ m' ∨ (m = 0 ∧ m' = 0)) (hm : m ≤ maxLen) (hm' : m' ≤ maxLen) :
    Calls Tryz.prog 44 #[.slice a m c, .slice a' m' c'] w fun e w' => e = .returned (.bool (decide (m = m'))) ∧ w' = w := by
  unfold maxLen at hm hm'
  rcases h with h | ⟨rfl, rfl⟩
  · have h' : ¬ (m : Int) = (m' : Int) := by omega
    rw [decide_eq_false h]
    clear h
    go_enter Tryz.func44, Tryz.ntmps44
    go_wp2
    go_ret
    exact ⟨rfl, rfl⟩
  · go_enter Tryz.func44, Tryz.ntmps44
    go_wp2
    go_loopg [13] 0 (fun _ s13 wr => s13 = .int .i64 0 ∧ wr = w)
    case atStart => exact ⟨rfl, rfl⟩
    case round =>
      obtain ⟨rfl, rfl⟩ := hrel
      go_wp2
      go_ret
      exact ⟨rfl, rfl⟩

theorem equal_any (u u' : Value) (os os' : List O) (w : World) (hu : Ol w u os) (hu' : Ol w u' os') (hl : os.length ≤ maxLen) (hl' : os'.length ≤ maxLen) :
    Calls Tryz.prog 44 #[u, u'] w (BoolP (os = os') w) := by
  by_cases h : os.length ≠ os'.length ∨ (os.length = 0 ∧ os'.length = 0)
  · obtain ⟨av, k, c, rfl, hk, _⟩ := hu
    obtain ⟨av', k', c', rfl, hk', _⟩ := hu'
    subst hk hk'
    refine (equal_none av av' _ _ c c' w h hl hl').mono ?_
    rintro e w' ⟨rfl, rfl⟩
    refine ⟨_, rfl, ?_, Below.refl _ _⟩
    rcases h with h | ⟨h1, h2⟩
    · rw [decide_eq_false h]
      exact ⟨fun e => (by cases e), fun e => absurd (by rw [e]) h⟩
    · rw [decide_eq_true (by rw [h1, h2])]
      exact ⟨fun _ => by rw [List.eq_nil_of_length_eq_zero h1, List.eq_nil_of_length_eq_zero h2], fun _ => rfl⟩
  · have h0 : 0 < os.length := by omega
    have h0' : 0 < os'.length := by omega
    obtain ⟨g, b, c, rfl, _, hcs⟩ := hu.cells h0
    obtain ⟨g', b', c', rfl, _, hcs'⟩ := hu'.cells h0'
    have h1 := @Tryz.slices_Equal_Op O inhO 5 Tryz.isAgg38 Tryz.sizeOf38 oc (fun _ => rfl) sameO op_neqAt g b os.length c g' b' os'.length c' os os' w (Nat.le_refl _) (Nat.le_refl _) (by unfold maxLen at hl; exact hl) (by unfold maxLen at hl'; exact hl') hcs hcs'
    rw [List.take_length, List.take_length] at h1
    refine h1.mono ?_
    rintro e w' ⟨rfl, q, rfl⟩
    exact ⟨_, rfl, allEq_same os os', below_drewN (Below.refl _ _) q⟩

set_option maxRecDepth 20000 in
set_option maxHeartbeats 4000000 in
theorem same_aux (P0 : Prop) (s n s' n' : Int) (u u' : Value) (os os' : List O) (w : World) (hu : Ol w u os) (hu' : Ol w u' os') (hl : os.length ≤ maxLen) (hl' : os'.length ≤ maxLen) (hP : P0 ↔ s = s' ∧ n = n' ∧ os = os') :
    Calls Tryz.prog 25 #[.agg #[.int .i64 s, .int .i64 n, u], .agg #[.int .i64 s', .int .i64 n', u']] w (BoolP P0 w) := by
  have HPP : Hid (P0 ↔ s = s' ∧ n = n' ∧ os = os') := hP
  have HU : Hid (Ol w u os ∧ Ol w u' os' ∧ os.length ≤ maxLen ∧ os'.length ≤ maxLen) := ⟨hu, hu', hl, hl'⟩
  have HBX : Hid (Box3 ((w.alloc (.cells #[.int .i64 s, .int .i64 n, u] 30)).alloc (.cells #[.int .i64 s', .int .i64 n', u'] 30)) w.heap.size s n u) := (Box3.made w s n u _).below ((Below.refl _ _).alloc (Nat.le_refl _) _)
  have HBY : Hid (Box3 ((w.alloc (.cells #[.int .i64 s, .int .i64 n, u] 30)).alloc (.cells #[.int .i64 s', .int .i64 n', u'] 30)) (w.heap.size + 1) s' n' u') := by
    have h := Box3.made (w.alloc (.cells #[.int .i64 s, .int .i64 n, u] 30)) s' n' u' 30
    rw [World.size_alloc] at h
    exact h
  have HB0 : Hid (Below w.heap.size w ((w.alloc (.cells #[.int .i64 s, .int .i64 n, u] 30)).alloc (.cells #[.int .i64 s', .int .i64 n', u'] 30))) := ((Below.refl _ w).alloc (Nat.le_refl _) _).alloc (by simp) _
  obtain ⟨au, m, cu, rfl, hX⟩ := hu
  obtain ⟨au', m', cu', rfl, hX'⟩ := hu'
  clear hl hl' hP hX hX'
  go_enter Tryz.func25, Tryz.ntmps25
  go_upto_region 1 with fail
  generalize (w.alloc (.cells #[.int .i64 s, .int .i64 n, .slice au m cu] 30)).alloc (.cells #[.int .i64 s', .int .i64 n', .slice au' m' cu'] 30) = w1 at *
  obtain ⟨c0, c1, c2⟩ := HBX.out
  obtain ⟨d0, d1, d2⟩ := HBY.out
  by_cases h1 : s = s'
  · subst h1
    by_cases h2 : n = n'
    · subst h2
      go_wp2_with fail
      refine (equal_any _ _ os os' _ (HU.out.1.below HB0.out) (HU.out.2.1.below HB0.out) HU.out.2.2.1 HU.out.2.2.2).mono ?_
      rintro e w2 ⟨R, rfl, hR, hb⟩
      have HR : Hid (R = true ↔ os = os') := hR
      have HB2 : Hid (Below w.heap.size w w2) := HB0.out.trans (hb.mono HB0.out.size)
      clear hb hR c0 c1 c2 d0 d1 d2
      go_wp2
      go_ret
      exact ⟨R, rfl, ⟨fun h => HPP.out.2 ⟨by trivial, by trivial, HR.out.1 h⟩, fun h => HR.out.2 (HPP.out.1 h).2.2⟩, HB2.out⟩
    · have HNE : Hid (¬ n = n') := h2
      go_wp2
      go_ret
      exact ⟨false, rfl, ⟨fun h => (by cases h), fun h => absurd (HPP.out.1 h).2.1 HNE.out⟩, HB0.out⟩
  · have HNE : Hid (¬ s = s') := h1
    go_wp2
    go_ret
    exact ⟨false, rfl, ⟨fun h => (by cases h), fun h => absurd (HPP.out.1 h).1 HNE.out⟩, HB0.out⟩

theorem same_spec : SameSpec := fun s n s' n' u u' os os' w hu hu' hl hl' => same_aux _ s n s' n' u u' os os' w hu hu' hl hl' Iff.rfl
end Go.Proofs.YtjimemnkmpapgaaGreatDoor
