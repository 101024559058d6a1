/- The walk of the statement ReplyAlike, over what reply's calls answer: it answers true. -/
import Derived.Test.YtebmcjhhoionbabLAwake6
import Derived.Test.YtebmcjhhoionbabTakeAt
import Derived.Deep.DeepCutAuto
namespace Go.Proofs.Ytebmcjhhoionbab
open Go.RowKit

/-- The cells of results that lie one behind the other. -/
theorem cells_of {w : World} {g : Nat} : ∀ (xs : List X) (b : Nat), (∀ (j : Nat) x, xs[j]? = some x → ∃ nv, Sq w nv x.names ∧ ∀ (i : Nat) u, (xc x nv)[i]? = some u → w.cell? ⟨g, b + (j * 11 + i), none⟩ = some u) →
    ∃ ps : List (X × Value), ps.map (·.1) = xs ∧ (∀ p ∈ ps, Sq w p.2 p.1.names) ∧ ∀ (j : Nat) u, (xcs ps)[j]? = some u → w.cell? ⟨g, b + j, none⟩ = some u
  | [], b, _ => ⟨[], rfl, fun p hp => (by cases hp), fun j u hu => (by simp [xcs] at hu)⟩
  | x :: xs, b, h => by
    obtain ⟨nv, hnv, hc⟩ := h 0 x rfl
    obtain ⟨ps, h1, h2, h3⟩ := cells_of xs (b + 11) (fun j y hy => by
      obtain ⟨nv', hn', hc'⟩ := h (j + 1) y hy
      refine ⟨nv', hn', fun i u hu => ?_⟩
      have := hc' i u hu
      rw [show b + 11 + (j * 11 + i) = b + ((j + 1) * 11 + i) by omega]
      exact this)
    refine ⟨(x, nv) :: ps, by rw [List.map_cons, h1], fun p hp => ?_, fun j u hu => ?_⟩
    · rcases List.mem_cons.1 hp with rfl | hp
      · exact hnv
      · exact h2 p hp
    · have e : xcs ((x, nv) :: ps) = xc x nv ++ xcs ps := by unfold xcs; rw [List.flatMap_cons]
      rw [e] at hu
      by_cases hj : j < 11
      · rw [List.getElem?_append_left (by rw [xc_len]; exact hj)] at hu
        have := hc j u hu
        rw [Nat.zero_mul, Nat.zero_add] at this
        exact this
      · rw [List.getElem?_append_right (by rw [xc_len]; omega), xc_len] at hu
        have := h3 (j - 11) u hu
        rw [show b + 11 + (j - 11) = b + j by omega] at this
        exact this

/-- An owned row of results, whose Names lie anywhere. -/
theorem rl_own {w : World} {B : Nat} {v : Value} {ps : List (X × Value)} (h : w.ownsRow B 28 11 v ps.length (xcs ps)) (hn : ∀ p ∈ ps, Sq w p.2 p.1.names) : Rl w v (ps.map (·.1)) := by
  rcases h.2 with ⟨rfl, h0⟩ | ⟨g, cap, cur, rfl, _, _, hc, _⟩
  · refine ⟨none, 0, 0, rfl, by rw [List.length_map]; exact h0.symm, Nat.le_refl _, fun _ => rfl, fun j o ho => ?_⟩
    have := (List.getElem?_eq_some_iff.1 ho).1
    rw [List.length_map] at this
    omega
  · refine ⟨some ⟨g, 0, none⟩, ps.length, cap, rfl, by rw [List.length_map], hc, fun e => (by cases e), fun j x hx => ?_⟩
    have hj := (List.getElem?_eq_some_iff.1 hx).1
    rw [List.length_map] at hj
    have hp : ps[j]? = some ps[j] := List.getElem?_eq_getElem hj
    rw [List.getElem?_map, hp] at hx
    have hx : ps[j].1 = x := Option.some.inj hx
    subst hx
    refine ⟨g, 0, ps[j].2, rfl, hn _ (List.getElem_mem hj), fun i u hu => ?_⟩
    have hi : i < 11 := by
      have := (List.getElem?_eq_some_iff.1 hu).1
      rw [xc_len] at this
      exact this
    rw [Nat.zero_add, h.cellAt (j * 11 + i) (by omega), xcs_get]
    have e1 : (j * 11 + i) / 11 = j := by omega
    have e2 : (j * 11 + i) % 11 = i := by omega
    rw [e1, e2, hp]
    exact hu

theorem sq_one {w : World} {v : Value} {ss : List ByteArray} (h : Sq w v ss) : v.oneCell' = true := by
  obtain ⟨a, k, c, rfl, _⟩ := h
  rfl
theorem xcs_one {w : World} {ps : List (X × Value)} (hn : ∀ p ∈ ps, Sq w p.2 p.1.names) : ∀ u ∈ xcs ps, u.oneCell' = true := fun u hu => by
  unfold xcs at hu
  obtain ⟨p, hp, hu⟩ := List.mem_flatMap.1 hu
  exact xc_one (sq_one (hn p hp)) u hu

/-- 'append(s, x...)' over cells of results. -/
theorem append_raw {ops : Array Oper} {rest : List Oper} {o : Oper} {a : Act} {Q : Exit → Act → World → Prop} (hgd : o.guard = none) (s x : Operand)
    (ho : o.op = .call { callee := .builtin .append, args := #[s, x], argTypes := #[22, 22] })
    (B : Nat) (v : Value) (n : Nat) (xs cs : List Value) (w : World) (ad : Addr) (k c : Nat) (hs : a.eval s = v) (hx : a.eval x = .slice (some ad) k c) (hown : w.ownsRow B 28 11 v n xs) (hk : cs.length = k * 11) (hc : ∀ j u, cs[j]? = some u → w.cell? (ad.add j) = some u) (h1 : ∀ u ∈ cs, u.oneCell' = true) (hN : n + k ≤ 1000) (hB : B ≤ w.heap.size)
    (h : ∀ v' w', w'.ownsRow B 28 11 v' (n + k) (xs ++ cs) → Below B w w' → wpList Try.prog ops Q rest (a.put o.dst v') w') : wpList Try.prog ops Q (o :: rest) a w := by
  obtain ⟨i0, hi, hz0, hz1, hz2⟩ := info_parts infoResult
  refine wpList_append_own _ hgd s x 22 ho B 28 i0 (.agg #[.int .i64 0, .string ⟨#[]⟩, .string ⟨#[]⟩, .slice none 0 0, .int .i64 0, .int .i64 0, .int .i64 0, .int .i64 0, .int .i64 0, .int .i64 0, .int .i64 0]) 11 120 Try.underlying22 hi hz0 hz1 hz2 rfl (by decide) v n xs hs hown ad k c cs hx hk hc h1 (by unfold maxLen; omega) (by omega) hB ?_
  intro v' w' ho' hg _
  exact h v' w' ho' ((Below.refl _ w).grown hg hB (fun k hk => (hown.lt k hk).1))

/-- 'append([]api.Result{}, l...)': a copy, its Names are l's. -/
theorem append_l {ops : Array Oper} {rest : List Oper} {o : Oper} {a : Act} {Q : Exit → Act → World → Prop} (hgd : o.guard = none) (s x : Operand)
    (ho : o.op = .call { callee := .builtin .append, args := #[s, x], argTypes := #[22, 22] })
    (u : Value) (xs : List X) (w0 : World) (hs : a.eval s = .slice (some ⟨w0.heap.size, 0, none⟩) 0 0) (hx : a.eval x = u) (hu : Rl w0 u xs) (hN : xs.length ≤ 1000)
    (h : ∀ v' w' ps, ps.map (·.1) = xs → (∀ p ∈ ps, Sq w0 p.2 p.1.names) → w'.ownsRow w0.heap.size 28 11 v' ps.length (xcs ps) → Below w0.heap.size w0 w' → wpList Try.prog ops Q rest (a.put o.dst v') w') : wpList Try.prog ops Q (o :: rest) a (w0.alloc (.cells #[] 28)) := by
  have hown : (w0.alloc (.cells #[] 28)).ownsRow w0.heap.size 28 11 (.slice (some ⟨w0.heap.size, 0, none⟩) 0 0) 0 [] := World.ownsRow_made w0 #[] 0 (Nat.le_refl _) (by decide) rfl
  have hal : Below w0.heap.size w0 (w0.alloc (.cells #[] 28)) := (Below.refl _ w0).alloc (Nat.le_refl _) _
  by_cases h0 : xs = []
  · subst h0
    obtain ⟨av, k, c, rfl, hk, hkc, hnone, _⟩ := hu
    have hk0 : k = 0 := hk
    subst hk0
    cases av with
    | none =>
      have hc0 := hnone rfl
      subst hc0
      obtain ⟨i0, hi, hz0, hz1, hz2⟩ := info_parts infoResult
      exact wpList_append_own_none hgd s x 22 ho w0.heap.size 28 i0 11 Try.underlying22 hi _ 0 [] hs hown hx (h _ _ [] rfl (fun p hp => by cases hp) hown hal)
    | some ad =>
      refine append_raw hgd s x ho w0.heap.size _ 0 [] [] _ ad 0 c hs hx hown rfl (fun j u hu => by simp at hu) (fun u hu => by cases hu) (by omega) (by simp) (fun v' w' ho' hb => ?_)
      exact h v' w' [] rfl (fun p hp => by cases hp) ho' (hal.trans hb)
  · have hpos : 0 < xs.length := List.length_pos_iff.2 h0
    obtain ⟨av, k, c, rfl, hk, hkc, hnone, hall⟩ := hu
    obtain ⟨g, b, nv0, rfl, _⟩ := hall 0 xs[0] (List.getElem?_eq_getElem hpos)
    obtain ⟨ps, e1, e2, e3⟩ := cells_of (w := w0) (g := g) xs b (fun j x hx => by
      obtain ⟨g', b', nv', e, hn', hc'⟩ := hall j x hx
      simp only [Option.some.injEq, Addr.mk.injEq, and_true] at e
      obtain ⟨rfl, rfl⟩ := e
      exact ⟨nv', hn', hc'⟩)
    have hpl : ps.length = xs.length := by rw [← e1, List.length_map]
    refine append_raw hgd s x ho w0.heap.size _ 0 [] (xcs ps) _ ⟨g, b, none⟩ k c hs hx hown (by rw [xcs_len, hk, hpl]) (fun j u hu => ?_) (xcs_one e2) (by omega) (by simp) (fun v' w' ho' hb => ?_)
    · rw [Addr.add_lit]
      exact Below.kept hal (e3 j u hu)
    · rw [Nat.zero_add, hk, ← hpl, List.nil_append] at ho'
      exact h v' w' ps e1 e2 ho' (hal.trans hb)

/-- A version is written. -/
theorem xcs_set : ∀ (ps : List (X × Value)) (k : Nat) (p : X × Value) (z : Int), ps[k]? = some p → (xcs ps).set (k * 11 + 6) (.int .i64 z) = xcs (ps.set k ({ p.1 with ver := z }, p.2))
  | [], _, _, _, h => by simp at h
  | q :: ps, 0, p, z, h => by
    have h : q = p := by simpa using h
    subst h
    have e : ∀ q' : X × Value, xcs (q' :: ps) = xc q'.1 q'.2 ++ xcs ps := fun q' => by unfold xcs; rw [List.flatMap_cons]
    rw [List.set_cons_zero, e, e, Nat.zero_mul, Nat.zero_add, List.set_append_left _ _ (by rw [xc_len]; omega)]
    rfl
  | q :: ps, k + 1, p, z, h => by
    have e : ∀ qs, xcs (q :: qs) = xc q.1 q.2 ++ xcs qs := fun qs => by unfold xcs; rw [List.flatMap_cons]
    rw [List.set_cons_succ, e, e, List.set_append_right _ _ (by rw [xc_len]; omega), xc_len, show (k + 1) * 11 + 6 - 11 = k * 11 + 6 by omega, xcs_set ps k p z (by simpa using h)]

theorem xor1_ne (z : Int) : bits .xor .i64 z 1 ≠ z := by
  intro h
  have h1 : BitVec.ofInt 64 (bits .xor .i64 z 1) = BitVec.ofInt 64 z ^^^ BitVec.ofInt 64 1 := by
    show BitVec.ofInt 64 (IntKind.wrap .i64 ((BitVec.ofInt 64 z ^^^ BitVec.ofInt 64 1).toNat : Int)) = _
    generalize BitVec.ofInt 64 z ^^^ BitVec.ofInt 64 1 = v
    have hv := v.isLt
    apply BitVec.eq_of_toNat_eq
    rw [BitVec.toNat_ofInt, IntKind.wrap_i64]
    omega
  rw [h] at h1
  have h2 := congrArg (fun b => b.getLsbD 0) h1
  simp at h2
/-- The same, within a drawn region. -/
theorem wp_raw {o : Oper} {a : Act} {K : Act → World → Prop} {Q : Exit → Act → World → Prop} (s x : Operand)
    (ho : o.op = .call { callee := .builtin .append, args := #[s, x], argTypes := #[22, 22] })
    (B : Nat) (v : Value) (n : Nat) (xs cs : List Value) (w : World) (ad : Addr) (k c : Nat) (hs : a.eval s = v) (hx : a.eval x = .slice (some ad) k c) (hown : w.ownsRow B 28 11 v n xs) (hk : cs.length = k * 11) (hc : ∀ j u, cs[j]? = some u → w.cell? (ad.add j) = some u) (h1 : ∀ u ∈ cs, u.oneCell' = true) (hN : n + k ≤ 1000) (hB : B ≤ w.heap.size)
    (h : ∀ v' w', w'.ownsRow B 28 11 v' (n + k) (xs ++ cs) → Below B w w' → w.grownBy w' v.ownBlock → K (a.put o.dst v') w') : o.wp Try.prog a w K Q := by
  obtain ⟨i0, hi, hz0, hz1, hz2⟩ := info_parts infoResult
  refine wp_append_own _ s x 22 ho B 28 i0 (.agg #[.int .i64 0, .string ⟨#[]⟩, .string ⟨#[]⟩, .slice none 0 0, .int .i64 0, .int .i64 0, .int .i64 0, .int .i64 0, .int .i64 0, .int .i64 0, .int .i64 0]) 11 120 Try.underlying22 hi hz0 hz1 hz2 rfl (by decide) v n xs hs hown ad k c cs hx hk hc h1 (by unfold maxLen; omega) (by omega) hB ?_
  intro v' w' ho' hg _
  exact h v' w' ho' ((Below.refl _ w).grown hg hB (fun k hk => (hown.lt k hk).1)) hg

theorem wp_l {o : Oper} {a : Act} {K : Act → World → Prop} {Q : Exit → Act → World → Prop} (s x : Operand)
    (ho : o.op = .call { callee := .builtin .append, args := #[s, x], argTypes := #[22, 22] })
    (W : World) (B : Nat) (v u : Value) (xs : List X) (w : World) (hs : a.eval s = v) (hx : a.eval x = u) (hown : w.ownsRow B 28 11 v 0 []) (hB : B ≤ w.heap.size) (hu : Rl W u xs) (hW : Below W.heap.size W w) (hN : xs.length ≤ 900)
    (h : ∀ v' w' ps, ps.map (·.1) = xs → (∀ p ∈ ps, Sq W p.2 p.1.names) → w'.ownsRow B 28 11 v' ps.length (xcs ps) → Below B w w' → w.grownBy w' v.ownBlock → K (a.put o.dst v') w') : o.wp Try.prog a w K Q := by
  by_cases h0 : xs = []
  · subst h0
    obtain ⟨av, k, c, rfl, hk, hkc, hnone, _⟩ := hu
    have hk0 : k = 0 := hk
    subst hk0
    cases av with
    | none =>
      have hc0 := hnone rfl
      subst hc0
      obtain ⟨i0, hi, hz0, hz1, hz2⟩ := info_parts infoResult
      have hrun := run_append_owned_none (P := Try.prog) (w := w) B 22 o.type 28 i0 11 Try.underlying22 hi v 0 [] hown
      have hx2 : a.eval x = .slice none 0 0 := hx
      unfold Oper.wp
      simp [execOp, ho, resolve, invoke, builtin, hs, hx2, hrun, Result.andThen]
      exact h v w [] rfl (fun p hp => by cases hp) hown (Below.refl _ _) ⟨rfl, rfl, rfl, Nat.le_refl _, fun _ _ _ => rfl⟩
    | some ad =>
      refine wp_raw s x ho B _ 0 [] [] _ ad 0 c hs hx hown rfl (fun j u hu => by simp at hu) (fun u hu => by cases hu) (by omega) hB (fun v' w' ho' hb hg => ?_)
      exact h v' w' [] rfl (fun p hp => by cases hp) ho' hb hg
  · have hpos : 0 < xs.length := List.length_pos_iff.2 h0
    obtain ⟨av, k, c, rfl, hk, hkc, hnone, hall⟩ := hu
    obtain ⟨g, b, nv0, rfl, _⟩ := hall 0 xs[0] (List.getElem?_eq_getElem hpos)
    obtain ⟨ps, e1, e2, e3⟩ := cells_of (w := W) (g := g) xs b (fun j x hx => by
      obtain ⟨g', b', nv', e, hn', hc'⟩ := hall j x hx
      simp only [Option.some.injEq, Addr.mk.injEq, and_true] at e
      obtain ⟨rfl, rfl⟩ := e
      exact ⟨nv', hn', hc'⟩)
    have hpl : ps.length = xs.length := by rw [← e1, List.length_map]
    refine wp_raw s x ho B _ 0 [] (xcs ps) _ ⟨g, b, none⟩ k c hs hx hown (by rw [xcs_len, hk, hpl]) (fun j u hu => ?_) (xcs_one e2) (by omega) hB (fun v' w' ho' hb hg => ?_)
    · rw [Addr.add_lit]
      exact Below.kept hW (e3 j u hu)
    · rw [Nat.zero_add, hk, ← hpl, List.nil_append] at ho'
      exact h v' w' ps e1 e2 ho' hb hg

set_option maxRecDepth 20000 in
set_option maxHeartbeats 4000000 in
theorem alike_any6 (hs : Specs6) (u : Value) (xs : List X) (at_ : Int) (x : X) (nv : Value) (w : World) (hu : Rl w u xs) (hl : xs.length ≤ maxLen) (hf : ∀ x ∈ xs, Rq.Fit x) (hx : Sq w nv x.names) (hxf : Rq.Fit x) :
    Calls Try.prog 3 #[u, .int .i64 at_, .agg (xc x nv).toArray] w fun e w' => e = .returned (.bool true) ∧ Below w.heap.size w w' := by
  have HS : Hid Specs6 := hs
  have HU : Hid (Rl w u xs ∧ xs.length ≤ maxLen ∧ ∀ x ∈ xs, Rq.Fit x) := ⟨hu, hl, hf⟩
  have HN : Hid (Sq w nv x.names ∧ Rq.Fit x) := ⟨hx, hxf⟩
  obtain ⟨au, m, cu, rfl, hm, hX⟩ := hu
  have HM : Hid (m = xs.length) := hm
  have hm1 : m ≤ 9223372036854775807 := by unfold maxLen at hl; omega
  obtain ⟨an, mn, cn, rfl, hXX⟩ := hx
  clear hs hl hf hm hX hXX hxf
  show Calls Try.prog 3 #[.slice au m cu, .int .i64 at_, .agg #[.int .i64 x.err, .string x.path, .string x.data, .slice an mn cn, .int .i64 x.made, .int .i64 x.changed, .int .i64 x.ver, .int .i64 x.kids, .int .i64 x.owner, .int .i64 x.len, .int .i64 x.cnt]] w _
  have HX0 : Hid (BoxX (w.alloc (.cells #[.int .i64 x.err, .string x.path, .string x.data, .slice an mn cn, .int .i64 x.made, .int .i64 x.changed, .int .i64 x.ver, .int .i64 x.kids, .int .i64 x.owner, .int .i64 x.len, .int .i64 x.cnt] 28)) w.heap.size x (.slice an mn cn)) := BoxX.made w x _ _
  have HB0 : Hid (Below w.heap.size w (w.alloc (.cells #[.int .i64 x.err, .string x.path, .string x.data, .slice an mn cn, .int .i64 x.made, .int .i64 x.changed, .int .i64 x.ver, .int .i64 x.kids, .int .i64 x.owner, .int .i64 x.len, .int .i64 x.cnt] 28))) := (Below.refl _ w).alloc (Nat.le_refl _) _
  go_enter Try.func3, Try.ntmps3
  go_wp2_with fail
  generalize (w.alloc (.cells #[.int .i64 x.err, .string x.path, .string x.data, .slice an mn cn, .int .i64 x.made, .int .i64 x.changed, .int .i64 x.ver, .int .i64 x.kids, .int .i64 x.owner, .int .i64 x.len, .int .i64 x.cnt] 28)) = w0 at *
  refine (awake_any6 HS.out _).mono ?_
  rintro e w1 ⟨rfl, hb⟩
  have HB1 : Hid (Below w.heap.size w w1) := HB0.out.trans (hb.mono HB0.out.size)
  have HX1 : Hid (BoxX w1 w.heap.size x (.slice an mn cn)) := HX0.out.below hb
  clear hb
  go_wp2_with fail
  refine (heavy_any _ xs _ (HU.out.1.below HB1.out) HU.out.2.1 HU.out.2.2).mono ?_
  rintro e w2 ⟨rfl, hb⟩
  have HB2 : Hid (Below w.heap.size w w2) := HB1.out.trans (hb.mono HB1.out.size)
  have HX2 : Hid (BoxX w2 w.heap.size x (.slice an mn cn)) := HX1.out.below hb
  clear hb
  cases hgr : heavyB xs with
  | true =>
    clear hgr
    go_wp2
    go_ret
    exact ⟨rfl, HB2.out⟩
  | false =>
    have HLT : Hid (xs.length ≤ 20 ∧ ∀ x ∈ xs, Light x) := heavy_light hgr
    clear hgr
    obtain ⟨x0, x1, x2, x3, x4, x5, x6, x7, x8, x9, x10⟩ := HX2.out
    have HR2 : Hid (Rl (w2.alloc (.cells #[.int .i64 x.err, .string x.path, .string x.data, .slice an mn cn, .int .i64 x.made, .int .i64 x.changed, .int .i64 x.ver, .int .i64 x.kids, .int .i64 x.owner, .int .i64 x.len, .int .i64 x.cnt] 28)) (.slice (some ⟨w2.heap.size, 0, none⟩) 1 1) [x]) := Rl.one w2 x _ _ (HN.out.1.below HB2.out)
    have hal : Below w2.heap.size w2 (w2.alloc (.cells #[.int .i64 x.err, .string x.path, .string x.data, .slice an mn cn, .int .i64 x.made, .int .i64 x.changed, .int .i64 x.ver, .int .i64 x.kids, .int .i64 x.owner, .int .i64 x.len, .int .i64 x.cnt] 28)) := (Below.refl _ w2).alloc (Nat.le_refl _) _
    have HB2a : Hid (Below w.heap.size w (w2.alloc (.cells #[.int .i64 x.err, .string x.path, .string x.data, .slice an mn cn, .int .i64 x.made, .int .i64 x.changed, .int .i64 x.ver, .int .i64 x.kids, .int .i64 x.owner, .int .i64 x.len, .int .i64 x.cnt] 28))) := HB2.out.trans (hal.mono HB2.out.size)
    have HX2a : Hid (BoxX (w2.alloc (.cells #[.int .i64 x.err, .string x.path, .string x.data, .slice an mn cn, .int .i64 x.made, .int .i64 x.changed, .int .i64 x.ver, .int .i64 x.kids, .int .i64 x.owner, .int .i64 x.len, .int .i64 x.cnt] 28)) w.heap.size x (.slice an mn cn)) := HX2.out.below hal
    clear hal
    go_wp2_with fail
    clear x0 x1 x2 x3 x4 x5 x6 x7 x8 x9 x10
    generalize (w2.alloc (.cells #[.int .i64 x.err, .string x.path, .string x.data, .slice an mn cn, .int .i64 x.made, .int .i64 x.changed, .int .i64 x.ver, .int .i64 x.kids, .int .i64 x.owner, .int .i64 x.len, .int .i64 x.cnt] 28)) = w2a at *
    refine (heavy_any _ [x] _ HR2.out (by unfold maxLen; simp) (fun y hy => by simp at hy; subst hy; exact HN.out.2)).mono ?_
    rintro e w3 ⟨rfl, hb⟩
    have HB3 : Hid (Below w.heap.size w w3) := HB2a.out.trans (hb.mono HB2a.out.size)
    have HX3 : Hid (BoxX w3 w.heap.size x (.slice an mn cn)) := HX2a.out.below hb
    clear hb
    cases hgr : heavyB [x] with
    | true =>
      clear hgr
      go_wp2
      go_ret
      exact ⟨rfl, HB3.out⟩
    | false =>
      have HLX : Hid (Light x) := (heavy_light hgr).2 x (by simp)
      clear hgr
      by_cases h15 : 15 < m
      · have h15' : (15 : Int) < (m : Int) := by omega
        go_wp2
        go_ret
        exact ⟨rfl, HB3.out⟩
      have h15' : ¬ (15 : Int) < (m : Int) := by omega
      have HM15 : Hid (xs.length ≤ 15) := by have := HM.out; exact (by omega : xs.length ≤ 15)
      go_upto_region 5 with fail
      go_cut [7] (fun v wx => ∃ a k c, v = .slice a k c ∧ Rl wx (.slice a k c) (xs ++ [x]) ∧ Below w3.drew.heap.size w3.drew wx)
      case first =>
        have HXW : Hid (BoxX w3.drew w.heap.size x (.slice an mn cn)) := HX3.out.below (Below.refl _ w3).drew
        have HUW : Hid (Rl w3.drew (.slice au m cu) xs) := (HU.out.1.below HB3.out).below (Below.refl _ w3).drew
        have HNW : Hid (Sq w3.drew (.slice an mn cn) x.names) := (HN.out.1.below HB3.out).below (Below.refl _ w3).drew
        refine wp_region_held_drew (S := fun w' => BoxX w' w.heap.size x (.slice an mn cn)) (by kernel_rfl) HXW.out (fun hHeld => ?_)
        obtain ⟨W, hW⟩ : ∃ W, W = w3.drew := ⟨_, rfl⟩
        rw [← hW] at hHeld HXW HUW HNW ⊢
        have HWD : Hid (W = w3.drew) := hW
        clear hW
        have HBW : Hid (Below W.heap.size W W) := Below.refl _ _
        have hSW : BoxX W w.heap.size x (.slice an mn cn) := HXW.out
        refine' take_at (i := 1) (d := 24) (v := _) rfl rfl (by kernel_rfl) (by kernel_rfl) (by kernel_rfl) (fun _ _ _ h => h) (Or.inl ⟨by rfl, ?h1⟩) hSW ?_
        case h1 => intro w hSw; obtain ⟨x0, x1, x2, x3, x4, x5, x6, x7, x8, x9, x10⟩ := hSw; go_simp; with_reducible rfl
        simp only [List.setIfInBounds_toArray, List.set_cons_zero, List.set_cons_succ]
        refine' take_at (i := 3) (d := 26) (v := _) rfl rfl (by kernel_rfl) (by kernel_rfl) (by kernel_rfl) (fun _ _ _ h => h) (Or.inl ⟨by rfl, ?h3⟩) hSW ?_
        case h3 => intro w hSw; obtain ⟨x0, x1, x2, x3, x4, x5, x6, x7, x8, x9, x10⟩ := hSw; go_simp; with_reducible rfl
        simp only [List.setIfInBounds_toArray, List.set_cons_zero, List.set_cons_succ]
        clear hHeld hSW
        refine wpAnyH_ready (rs := [0, 4]) (by kernel_rfl) (by simp) ?_
        refine AllReadyH.cons (o := _) rfl (fun K hK => ?_) (AllReadyH.cons (o := _) rfl (fun K hK => ?_) AllReadyH.nil)
        · go_simp
          have hal : Below W.heap.size W (W.alloc (.cells #[] 28)) := (Below.refl _ W).alloc (Nat.le_refl _) _
          have HBWa : Hid (Below W.heap.size W (W.alloc (.cells #[] 28))) := HBW.out.trans (hal.mono HBW.out.size)
          have HXWa : Hid (BoxX (W.alloc (.cells #[] 28)) w.heap.size x (.slice an mn cn)) := HXW.out.below hal
          obtain ⟨q0, hq0⟩ : ∃ q0, q0 = W.heap.size := ⟨_, rfl⟩
          have HOWa : Hid ((W.alloc (.cells #[] 28)).ownsRow W.heap.size 28 11 (.slice (some ⟨q0, 0, none⟩) 0 0) 0 []) := by
            rw [hq0]
            exact World.ownsRow_made W #[] 0 HBW.out.size (by decide) rfl
          have HSWa : Hid ((W.alloc (.cells #[] 28)).heap.size = q0 + 1) := by
            have h : (W.alloc (.cells #[] 28)).heap.size = q0 + 1 := by rw [World.size_alloc, hq0]
            exact h
          rw [← hq0]
          clear hq0 hal
          refine hK.out _ _ HXWa.out (fun _ => ?_)
          clear hK K
          generalize (W.alloc (.cells #[] 28)) = Wa at *
          refine wpAnyH_ready (rs := [2, 4]) (by kernel_rfl) (by simp) ?_
          refine AllReadyH.cons (o := _) rfl (fun K hK => ?_) (AllReadyH.cons (o := _) rfl (fun K hK => ?_) AllReadyH.nil)
          · refine wp_l _ _ rfl W W.heap.size (.slice (some ⟨q0, 0, none⟩) 0 0) (.slice au m cu) xs Wa rfl rfl HOWa.out HBWa.out.size HUW.out HBWa.out (by have := HM15.out; omega) ?_
            intro v4 Wb ps hps hnm ho hb hg
            have HP : Hid (ps.map (·.1) = xs ∧ (∀ p ∈ ps, Sq W p.2 p.1.names) ∧ ps.length = xs.length) := ⟨hps, hnm, by rw [← hps, List.length_map]⟩
            have HOWb : Hid (Wb.ownsRow W.heap.size 28 11 v4 ps.length (xcs ps)) := ho
            have HBWb : Hid (Below W.heap.size W Wb) := HBWa.out.trans hb
            have HXWb : Hid (BoxX Wb w.heap.size x (.slice an mn cn)) := HXW.out.below HBWb.out
            clear hps hnm ho hb hg
            go_simp
            refine hK.out _ _ HXWb.out (fun _ => ?_)
            clear hK K
            refine wpAnyH_ready (rs := [4]) (by kernel_rfl) (by simp) ?_
            refine AllReadyH.cons (o := _) rfl (fun K hK => ?_) AllReadyH.nil
            go_simp
            have hal : Below Wb.heap.size Wb (Wb.alloc (.cells #[.int .i64 x.err, .string x.path, .string x.data, .slice an mn cn, .int .i64 x.made, .int .i64 x.changed, .int .i64 x.ver, .int .i64 x.kids, .int .i64 x.owner, .int .i64 x.len, .int .i64 x.cnt] 28)) := (Below.refl _ Wb).alloc (Nat.le_refl _) _
            have HBWc : Hid (Below W.heap.size W (Wb.alloc (.cells #[.int .i64 x.err, .string x.path, .string x.data, .slice an mn cn, .int .i64 x.made, .int .i64 x.changed, .int .i64 x.ver, .int .i64 x.kids, .int .i64 x.owner, .int .i64 x.len, .int .i64 x.cnt] 28))) := HBWb.out.trans (hal.mono HBWb.out.size)
            have HXWc : Hid (BoxX (Wb.alloc (.cells #[.int .i64 x.err, .string x.path, .string x.data, .slice an mn cn, .int .i64 x.made, .int .i64 x.changed, .int .i64 x.ver, .int .i64 x.kids, .int .i64 x.owner, .int .i64 x.len, .int .i64 x.cnt] 28)) w.heap.size x (.slice an mn cn)) := HXWb.out.below hal
            obtain ⟨qx, hqx⟩ : ∃ qx, qx = Wb.heap.size := ⟨_, rfl⟩
            have HCWc : Hid (∀ (j : Nat) u, (xc x (.slice an mn cn))[j]? = some u → (Wb.alloc (.cells #[.int .i64 x.err, .string x.path, .string x.data, .slice an mn cn, .int .i64 x.made, .int .i64 x.changed, .int .i64 x.ver, .int .i64 x.kids, .int .i64 x.owner, .int .i64 x.len, .int .i64 x.cnt] 28)).cell? ⟨qx, j, none⟩ = some u) := fun j u hu => by
              rw [hqx]
              exact cell?_alloc_at _ _ _ _ _ _ (by simpa [xc] using hu)
            have HSWc : Hid ((Wb.alloc (.cells #[.int .i64 x.err, .string x.path, .string x.data, .slice an mn cn, .int .i64 x.made, .int .i64 x.changed, .int .i64 x.ver, .int .i64 x.kids, .int .i64 x.owner, .int .i64 x.len, .int .i64 x.cnt] 28)).heap.size = qx + 1) := by
              have h : (Wb.alloc (.cells #[.int .i64 x.err, .string x.path, .string x.data, .slice an mn cn, .int .i64 x.made, .int .i64 x.changed, .int .i64 x.ver, .int .i64 x.kids, .int .i64 x.owner, .int .i64 x.len, .int .i64 x.cnt] 28)).heap.size = qx + 1 := by rw [World.size_alloc, hqx]
              exact h
            have HOWc : Hid ((Wb.alloc (.cells #[.int .i64 x.err, .string x.path, .string x.data, .slice an mn cn, .int .i64 x.made, .int .i64 x.changed, .int .i64 x.ver, .int .i64 x.kids, .int .i64 x.owner, .int .i64 x.len, .int .i64 x.cnt] 28)).ownsRow W.heap.size 28 11 v4 ps.length (xcs ps)) := HOWb.out.alloc _
            rw [← hqx]
            clear hqx hal
            refine hK.out _ _ HXWc.out (fun _ => ?_)
            clear hK K
            generalize (Wb.alloc (.cells #[.int .i64 x.err, .string x.path, .string x.data, .slice an mn cn, .int .i64 x.made, .int .i64 x.changed, .int .i64 x.ver, .int .i64 x.kids, .int .i64 x.owner, .int .i64 x.len, .int .i64 x.cnt] 28)) = Wc at *
            refine wpAnyH_ready (rs := [5]) (by kernel_rfl) (by simp) ?_
            refine AllReadyH.cons (o := _) rfl (fun K hK => ?_) AllReadyH.nil
            refine wp_raw _ _ rfl W.heap.size v4 ps.length (xcs ps) (xc x (.slice an mn cn)) Wc ⟨qx, 0, none⟩ 1 1 rfl rfl HOWc.out rfl (fun j u hu => by rw [Addr.add_lit, Nat.zero_add]; exact HCWc.out j u hu) (xc_one rfl) (by have := HP.out.2.2; have := HM15.out; omega) HBWc.out.size ?_
            intro v5 w5 ho hb hg
            obtain ⟨a5, k5, c5, rfl⟩ : ∃ a k c, v5 = .slice a k c := by
              rcases ho.2 with ⟨rfl, _⟩ | ⟨g, cap, cur, rfl, _⟩
              · exact ⟨_, _, _, rfl⟩
              · exact ⟨_, _, _, rfl⟩
            have HB5 : Hid (Below W.heap.size W w5) := HBWc.out.trans hb
            have HX5 : Hid (BoxX w5 w.heap.size x (.slice an mn cn)) := HXW.out.below HB5.out
            have HR5 : Hid (Rl w5 (.slice a5 k5 c5) (xs ++ [x])) := by
              have e : xcs ps ++ xc x (.slice an mn cn) = xcs (ps ++ [(x, (.slice an mn cn))]) := by unfold xcs; rw [List.flatMap_append]; simp
              rw [e] at ho
              have h := rl_own (ps := ps ++ [(x, (.slice an mn cn))]) (by rw [List.length_append]; exact ho) (fun p hp => by
                rcases List.mem_append.1 hp with hp | hp
                · exact (HP.out.2.1 p hp).below HB5.out
                · simp only [List.mem_cons, List.not_mem_nil, or_false] at hp
                  subst hp
                  exact HNW.out.below HB5.out)
              rw [List.map_append, HP.out.1] at h
              exact h
            clear ho hb hg
            go_simp
            refine hK.out _ _ HX5.out (fun hHeld => ?_)
            clear hK K
            have hS5 : BoxX w5 w.heap.size x (.slice an mn cn) := HX5.out
            refine' take_at (i := 6) (d := 7) (v := _) rfl rfl (by kernel_rfl) (by kernel_rfl) (by kernel_rfl) (fun _ _ _ h => h) (Or.inl ⟨by rfl, ?h6⟩) hS5 ?_
            case h6 => intro w hSw; obtain ⟨x0, x1, x2, x3, x4, x5, x6, x7, x8, x9, x10⟩ := hSw; go_simp; with_reducible rfl
            simp only [List.setIfInBounds_toArray, List.set_cons_zero, List.set_cons_succ]
            refine wpAnyH_done (by kernel_rfl) ?_ _
            clear hHeld hS5
            go_wp2
            go_meet
            case rel => exact ⟨a5, k5, c5, rfl, HR5.out, by rw [← HWD.out]; exact HB5.out⟩
          · go_simp
            have hal : Below Wa.heap.size Wa (Wa.alloc (.cells #[.int .i64 x.err, .string x.path, .string x.data, .slice an mn cn, .int .i64 x.made, .int .i64 x.changed, .int .i64 x.ver, .int .i64 x.kids, .int .i64 x.owner, .int .i64 x.len, .int .i64 x.cnt] 28)) := (Below.refl _ Wa).alloc (Nat.le_refl _) _
            have HBWb : Hid (Below W.heap.size W (Wa.alloc (.cells #[.int .i64 x.err, .string x.path, .string x.data, .slice an mn cn, .int .i64 x.made, .int .i64 x.changed, .int .i64 x.ver, .int .i64 x.kids, .int .i64 x.owner, .int .i64 x.len, .int .i64 x.cnt] 28))) := HBWa.out.trans (hal.mono HBWa.out.size)
            have HXWb : Hid (BoxX (Wa.alloc (.cells #[.int .i64 x.err, .string x.path, .string x.data, .slice an mn cn, .int .i64 x.made, .int .i64 x.changed, .int .i64 x.ver, .int .i64 x.kids, .int .i64 x.owner, .int .i64 x.len, .int .i64 x.cnt] 28)) w.heap.size x (.slice an mn cn)) := HXWa.out.below hal
            obtain ⟨qx, hqx⟩ : ∃ qx, qx = Wa.heap.size := ⟨_, rfl⟩
            have HCWb : Hid (∀ (j : Nat) u, (xc x (.slice an mn cn))[j]? = some u → (Wa.alloc (.cells #[.int .i64 x.err, .string x.path, .string x.data, .slice an mn cn, .int .i64 x.made, .int .i64 x.changed, .int .i64 x.ver, .int .i64 x.kids, .int .i64 x.owner, .int .i64 x.len, .int .i64 x.cnt] 28)).cell? ⟨qx, j, none⟩ = some u) := fun j u hu => by
              rw [hqx]
              exact cell?_alloc_at _ _ _ _ _ _ (by simpa [xc] using hu)
            have HSWb : Hid ((Wa.alloc (.cells #[.int .i64 x.err, .string x.path, .string x.data, .slice an mn cn, .int .i64 x.made, .int .i64 x.changed, .int .i64 x.ver, .int .i64 x.kids, .int .i64 x.owner, .int .i64 x.len, .int .i64 x.cnt] 28)).heap.size = qx + 1) := by
              have h : (Wa.alloc (.cells #[.int .i64 x.err, .string x.path, .string x.data, .slice an mn cn, .int .i64 x.made, .int .i64 x.changed, .int .i64 x.ver, .int .i64 x.kids, .int .i64 x.owner, .int .i64 x.len, .int .i64 x.cnt] 28)).heap.size = qx + 1 := by rw [World.size_alloc, hqx]
              exact h
            have HOWb : Hid ((Wa.alloc (.cells #[.int .i64 x.err, .string x.path, .string x.data, .slice an mn cn, .int .i64 x.made, .int .i64 x.changed, .int .i64 x.ver, .int .i64 x.kids, .int .i64 x.owner, .int .i64 x.len, .int .i64 x.cnt] 28)).ownsRow W.heap.size 28 11 (.slice (some ⟨q0, 0, none⟩) 0 0) 0 []) := HOWa.out.alloc _
            have HNE : Hid (qx ≠ q0) := by
              have h : qx ≠ q0 := by have := HSWa.out; omega
              exact h
            rw [← hqx]
            clear hqx hal
            refine hK.out _ _ HXWb.out (fun _ => ?_)
            clear hK K
            generalize (Wa.alloc (.cells #[.int .i64 x.err, .string x.path, .string x.data, .slice an mn cn, .int .i64 x.made, .int .i64 x.changed, .int .i64 x.ver, .int .i64 x.kids, .int .i64 x.owner, .int .i64 x.len, .int .i64 x.cnt] 28)) = Wb at *
            refine wpAnyH_ready (rs := [2]) (by kernel_rfl) (by simp) ?_
            refine AllReadyH.cons (o := _) rfl (fun K hK => ?_) AllReadyH.nil
            refine wp_l _ _ rfl W W.heap.size (.slice (some ⟨q0, 0, none⟩) 0 0) (.slice au m cu) xs Wb rfl rfl HOWb.out HBWb.out.size HUW.out HBWb.out (by have := HM15.out; omega) ?_
            intro v4 Wc ps hps hnm ho hb hg
            have HP : Hid (ps.map (·.1) = xs ∧ (∀ p ∈ ps, Sq W p.2 p.1.names) ∧ ps.length = xs.length) := ⟨hps, hnm, by rw [← hps, List.length_map]⟩
            have HOWc : Hid (Wc.ownsRow W.heap.size 28 11 v4 ps.length (xcs ps)) := ho
            have HBWc : Hid (Below W.heap.size W Wc) := HBWb.out.trans hb
            have HXWc : Hid (BoxX Wc w.heap.size x (.slice an mn cn)) := HXW.out.below HBWc.out
            have HCWc : Hid (∀ (j : Nat) u, (xc x (.slice an mn cn))[j]? = some u → Wc.cell? ⟨qx, j, none⟩ = some u) := fun j u hu => by
              have h := HCWb.out j u hu
              have hlt := World.block_lt_of_cell? Wb _ h
              exact (World.cell?_of_block (hg.block qx hlt (fun e => HNE.out (Option.some.inj e)))).trans h
            clear hps hnm ho hb hg
            go_simp
            refine hK.out _ _ HXWc.out (fun _ => ?_)
            clear hK K
            refine wpAnyH_ready (rs := [5]) (by kernel_rfl) (by simp) ?_
            refine AllReadyH.cons (o := _) rfl (fun K hK => ?_) AllReadyH.nil
            refine wp_raw _ _ rfl W.heap.size v4 ps.length (xcs ps) (xc x (.slice an mn cn)) Wc ⟨qx, 0, none⟩ 1 1 rfl rfl HOWc.out rfl (fun j u hu => by rw [Addr.add_lit, Nat.zero_add]; exact HCWc.out j u hu) (xc_one rfl) (by have := HP.out.2.2; have := HM15.out; omega) HBWc.out.size ?_
            intro v5 w5 ho hb hg
            obtain ⟨a5, k5, c5, rfl⟩ : ∃ a k c, v5 = .slice a k c := by
              rcases ho.2 with ⟨rfl, _⟩ | ⟨g, cap, cur, rfl, _⟩
              · exact ⟨_, _, _, rfl⟩
              · exact ⟨_, _, _, rfl⟩
            have HB5 : Hid (Below W.heap.size W w5) := HBWc.out.trans hb
            have HX5 : Hid (BoxX w5 w.heap.size x (.slice an mn cn)) := HXW.out.below HB5.out
            have HR5 : Hid (Rl w5 (.slice a5 k5 c5) (xs ++ [x])) := by
              have e : xcs ps ++ xc x (.slice an mn cn) = xcs (ps ++ [(x, (.slice an mn cn))]) := by unfold xcs; rw [List.flatMap_append]; simp
              rw [e] at ho
              have h := rl_own (ps := ps ++ [(x, (.slice an mn cn))]) (by rw [List.length_append]; exact ho) (fun p hp => by
                rcases List.mem_append.1 hp with hp | hp
                · exact (HP.out.2.1 p hp).below HB5.out
                · simp only [List.mem_cons, List.not_mem_nil, or_false] at hp
                  subst hp
                  exact HNW.out.below HB5.out)
              rw [List.map_append, HP.out.1] at h
              exact h
            clear ho hb hg
            go_simp
            refine hK.out _ _ HX5.out (fun hHeld => ?_)
            clear hK K
            have hS5 : BoxX w5 w.heap.size x (.slice an mn cn) := HX5.out
            refine' take_at (i := 6) (d := 7) (v := _) rfl rfl (by kernel_rfl) (by kernel_rfl) (by kernel_rfl) (fun _ _ _ h => h) (Or.inl ⟨by rfl, ?h6⟩) hS5 ?_
            case h6 => intro w hSw; obtain ⟨x0, x1, x2, x3, x4, x5, x6, x7, x8, x9, x10⟩ := hSw; go_simp; with_reducible rfl
            simp only [List.setIfInBounds_toArray, List.set_cons_zero, List.set_cons_succ]
            refine wpAnyH_done (by kernel_rfl) ?_ _
            clear hHeld hS5
            go_wp2
            go_meet
            case rel => exact ⟨a5, k5, c5, rfl, HR5.out, by rw [← HWD.out]; exact HB5.out⟩
        · go_simp
          have hal : Below W.heap.size W (W.alloc (.cells #[.int .i64 x.err, .string x.path, .string x.data, .slice an mn cn, .int .i64 x.made, .int .i64 x.changed, .int .i64 x.ver, .int .i64 x.kids, .int .i64 x.owner, .int .i64 x.len, .int .i64 x.cnt] 28)) := (Below.refl _ W).alloc (Nat.le_refl _) _
          have HBWa : Hid (Below W.heap.size W (W.alloc (.cells #[.int .i64 x.err, .string x.path, .string x.data, .slice an mn cn, .int .i64 x.made, .int .i64 x.changed, .int .i64 x.ver, .int .i64 x.kids, .int .i64 x.owner, .int .i64 x.len, .int .i64 x.cnt] 28))) := HBW.out.trans (hal.mono HBW.out.size)
          have HXWa : Hid (BoxX (W.alloc (.cells #[.int .i64 x.err, .string x.path, .string x.data, .slice an mn cn, .int .i64 x.made, .int .i64 x.changed, .int .i64 x.ver, .int .i64 x.kids, .int .i64 x.owner, .int .i64 x.len, .int .i64 x.cnt] 28)) w.heap.size x (.slice an mn cn)) := HXW.out.below hal
          obtain ⟨qx, hqx⟩ : ∃ qx, qx = W.heap.size := ⟨_, rfl⟩
          have HCWa : Hid (∀ (j : Nat) u, (xc x (.slice an mn cn))[j]? = some u → (W.alloc (.cells #[.int .i64 x.err, .string x.path, .string x.data, .slice an mn cn, .int .i64 x.made, .int .i64 x.changed, .int .i64 x.ver, .int .i64 x.kids, .int .i64 x.owner, .int .i64 x.len, .int .i64 x.cnt] 28)).cell? ⟨qx, j, none⟩ = some u) := fun j u hu => by
            rw [hqx]
            exact cell?_alloc_at _ _ _ _ _ _ (by simpa [xc] using hu)
          have HSWa : Hid ((W.alloc (.cells #[.int .i64 x.err, .string x.path, .string x.data, .slice an mn cn, .int .i64 x.made, .int .i64 x.changed, .int .i64 x.ver, .int .i64 x.kids, .int .i64 x.owner, .int .i64 x.len, .int .i64 x.cnt] 28)).heap.size = qx + 1) := by
            have h : (W.alloc (.cells #[.int .i64 x.err, .string x.path, .string x.data, .slice an mn cn, .int .i64 x.made, .int .i64 x.changed, .int .i64 x.ver, .int .i64 x.kids, .int .i64 x.owner, .int .i64 x.len, .int .i64 x.cnt] 28)).heap.size = qx + 1 := by rw [World.size_alloc, hqx]
            exact h
          rw [← hqx]
          clear hqx hal
          refine hK.out _ _ HXWa.out (fun _ => ?_)
          clear hK K
          generalize (W.alloc (.cells #[.int .i64 x.err, .string x.path, .string x.data, .slice an mn cn, .int .i64 x.made, .int .i64 x.changed, .int .i64 x.ver, .int .i64 x.kids, .int .i64 x.owner, .int .i64 x.len, .int .i64 x.cnt] 28)) = Wa at *
          refine wpAnyH_ready (rs := [0]) (by kernel_rfl) (by simp) ?_
          refine AllReadyH.cons (o := _) rfl (fun K hK => ?_) AllReadyH.nil
          go_simp
          have hal : Below Wa.heap.size Wa (Wa.alloc (.cells #[] 28)) := (Below.refl _ Wa).alloc (Nat.le_refl _) _
          have HBWb : Hid (Below W.heap.size W (Wa.alloc (.cells #[] 28))) := HBWa.out.trans (hal.mono HBWa.out.size)
          have HXWb : Hid (BoxX (Wa.alloc (.cells #[] 28)) w.heap.size x (.slice an mn cn)) := HXWa.out.below hal
          obtain ⟨q0, hq0⟩ : ∃ q0, q0 = Wa.heap.size := ⟨_, rfl⟩
          have HOWb : Hid ((Wa.alloc (.cells #[] 28)).ownsRow W.heap.size 28 11 (.slice (some ⟨q0, 0, none⟩) 0 0) 0 []) := by
            rw [hq0]
            exact World.ownsRow_made Wa #[] 0 HBWa.out.size (by decide) rfl
          have HSWb : Hid ((Wa.alloc (.cells #[] 28)).heap.size = q0 + 1) := by
            have h : (Wa.alloc (.cells #[] 28)).heap.size = q0 + 1 := by rw [World.size_alloc, hq0]
            exact h
          have HCWb : Hid (∀ (j : Nat) u, (xc x (.slice an mn cn))[j]? = some u → (Wa.alloc (.cells #[] 28)).cell? ⟨qx, j, none⟩ = some u) := fun j u hu => Below.kept hal (HCWa.out j u hu)
          have HNE : Hid (qx ≠ q0) := by
            have h : qx ≠ q0 := by have := HSWa.out; omega
            exact h
          rw [← hq0]
          clear hq0 hal
          refine hK.out _ _ HXWb.out (fun _ => ?_)
          clear hK K
          generalize (Wa.alloc (.cells #[] 28)) = Wb at *
          refine wpAnyH_ready (rs := [2]) (by kernel_rfl) (by simp) ?_
          refine AllReadyH.cons (o := _) rfl (fun K hK => ?_) AllReadyH.nil
          refine wp_l _ _ rfl W W.heap.size (.slice (some ⟨q0, 0, none⟩) 0 0) (.slice au m cu) xs Wb rfl rfl HOWb.out HBWb.out.size HUW.out HBWb.out (by have := HM15.out; omega) ?_
          intro v4 Wc ps hps hnm ho hb hg
          have HP : Hid (ps.map (·.1) = xs ∧ (∀ p ∈ ps, Sq W p.2 p.1.names) ∧ ps.length = xs.length) := ⟨hps, hnm, by rw [← hps, List.length_map]⟩
          have HOWc : Hid (Wc.ownsRow W.heap.size 28 11 v4 ps.length (xcs ps)) := ho
          have HBWc : Hid (Below W.heap.size W Wc) := HBWb.out.trans hb
          have HXWc : Hid (BoxX Wc w.heap.size x (.slice an mn cn)) := HXW.out.below HBWc.out
          have HCWc : Hid (∀ (j : Nat) u, (xc x (.slice an mn cn))[j]? = some u → Wc.cell? ⟨qx, j, none⟩ = some u) := fun j u hu => by
            have h := HCWb.out j u hu
            have hlt := World.block_lt_of_cell? Wb _ h
            exact (World.cell?_of_block (hg.block qx hlt (fun e => HNE.out (Option.some.inj e)))).trans h
          clear hps hnm ho hb hg
          go_simp
          refine hK.out _ _ HXWc.out (fun _ => ?_)
          clear hK K
          refine wpAnyH_ready (rs := [5]) (by kernel_rfl) (by simp) ?_
          refine AllReadyH.cons (o := _) rfl (fun K hK => ?_) AllReadyH.nil
          refine wp_raw _ _ rfl W.heap.size v4 ps.length (xcs ps) (xc x (.slice an mn cn)) Wc ⟨qx, 0, none⟩ 1 1 rfl rfl HOWc.out rfl (fun j u hu => by rw [Addr.add_lit, Nat.zero_add]; exact HCWc.out j u hu) (xc_one rfl) (by have := HP.out.2.2; have := HM15.out; omega) HBWc.out.size ?_
          intro v5 w5 ho hb hg
          obtain ⟨a5, k5, c5, rfl⟩ : ∃ a k c, v5 = .slice a k c := by
            rcases ho.2 with ⟨rfl, _⟩ | ⟨g, cap, cur, rfl, _⟩
            · exact ⟨_, _, _, rfl⟩
            · exact ⟨_, _, _, rfl⟩
          have HB5 : Hid (Below W.heap.size W w5) := HBWc.out.trans hb
          have HX5 : Hid (BoxX w5 w.heap.size x (.slice an mn cn)) := HXW.out.below HB5.out
          have HR5 : Hid (Rl w5 (.slice a5 k5 c5) (xs ++ [x])) := by
            have e : xcs ps ++ xc x (.slice an mn cn) = xcs (ps ++ [(x, (.slice an mn cn))]) := by unfold xcs; rw [List.flatMap_append]; simp
            rw [e] at ho
            have h := rl_own (ps := ps ++ [(x, (.slice an mn cn))]) (by rw [List.length_append]; exact ho) (fun p hp => by
              rcases List.mem_append.1 hp with hp | hp
              · exact (HP.out.2.1 p hp).below HB5.out
              · simp only [List.mem_cons, List.not_mem_nil, or_false] at hp
                subst hp
                exact HNW.out.below HB5.out)
            rw [List.map_append, HP.out.1] at h
            exact h
          clear ho hb hg
          go_simp
          refine hK.out _ _ HX5.out (fun hHeld => ?_)
          clear hK K
          have hS5 : BoxX w5 w.heap.size x (.slice an mn cn) := HX5.out
          refine' take_at (i := 6) (d := 7) (v := _) rfl rfl (by kernel_rfl) (by kernel_rfl) (by kernel_rfl) (fun _ _ _ h => h) (Or.inl ⟨by rfl, ?h6⟩) hS5 ?_
          case h6 => intro w hSw; obtain ⟨x0, x1, x2, x3, x4, x5, x6, x7, x8, x9, x10⟩ := hSw; go_simp; with_reducible rfl
          simp only [List.setIfInBounds_toArray, List.set_cons_zero, List.set_cons_succ]
          refine wpAnyH_done (by kernel_rfl) ?_ _
          clear hHeld hS5
          go_wp2
          go_meet
          case rel => exact ⟨a5, k5, c5, rfl, HR5.out, by rw [← HWD.out]; exact HB5.out⟩
      case rest =>
        obtain ⟨a5, k5, c5, rfl, hr5, hb5⟩ := hcut
        generalize wc = w5 at *
        have HR5 : Hid (Rl w5 (.slice a5 k5 c5) (xs ++ [x])) := hr5
        have HB5 : Hid (Below w.heap.size w w5) := HB3.out.drew.trans (hb5.mono HB3.out.drew.size)
        clear hr5 hb5
        have HFX : Hid (Few xs ∧ Few (xs ++ [x]) ∧ (xs ++ [x]).length ≤ maxLen) := by
          refine ⟨few_light HLT.out.2, few_light (fun y hy => ?_), ?_⟩
          · rcases List.mem_append.1 hy with hy | hy
            · exact HLT.out.2 y hy
            · simp only [List.mem_cons, List.not_mem_nil, or_false] at hy
              subst hy
              exact HLX.out
          · rw [List.length_append]
            have := HM15.out
            unfold maxLen
            simp only [List.length_cons, List.length_nil]
            omega
        have HNE : Hid (¬ xs = xs ++ [x]) := fun h => by
          have := congrArg List.length h
          rw [List.length_append] at this
          simp only [List.length_cons, List.length_nil] at this
          omega
        go_wp2_with fail
        refine (HS.out.alike True _ _ xs xs _ (HU.out.1.below HB5.out) (HU.out.1.below HB5.out) HU.out.2.1 HU.out.2.1 HFX.out.1 HFX.out.1 ⟨fun _ => rfl, fun _ => trivial⟩).mono ?_
        rintro e w6 ⟨R, rfl, hR, hb⟩
        have hR1 : R = true := hR.2 trivial
        subst hR1
        have HB6 : Hid (Below w.heap.size w w6) := HB5.out.trans (hb.mono HB5.out.size)
        have HR6 : Hid (Rl w6 (.slice a5 k5 c5) (xs ++ [x])) := HR5.out.below hb
        clear hb hR
        go_wp2_with fail
        refine (HS.out.alike False _ _ xs (xs ++ [x]) _ (HU.out.1.below HB6.out) HR6.out HU.out.2.1 HFX.out.2.2 HFX.out.1 HFX.out.2.1 ⟨fun h => h.elim, fun h => HNE.out h⟩).mono ?_
        rintro e w7 ⟨R, rfl, hR, hb⟩
        have hR1 : R = false := by
          cases R with
          | false => rfl
          | true => exact (hR.1 rfl).elim
        subst hR1
        have HB7 : Hid (Below w.heap.size w w7) := HB6.out.trans (hb.mono HB6.out.size)
        have HR7 : Hid (Rl w7 (.slice a5 k5 c5) (xs ++ [x])) := HR6.out.below hb
        clear hb hR
        go_wp2_with fail
        refine (HS.out.alike False _ _ (xs ++ [x]) xs _ HR7.out (HU.out.1.below HB7.out) HFX.out.2.2 HU.out.2.1 HFX.out.2.1 HFX.out.1 ⟨fun h => h.elim, fun h => HNE.out h.symm⟩).mono ?_
        rintro e w8 ⟨R, rfl, hR, hb⟩
        have hR1 : R = false := by
          cases R with
          | false => rfl
          | true => exact (hR.1 rfl).elim
        subst hR1
        have HB8 : Hid (Below w.heap.size w w8) := HB7.out.trans (hb.mono HB7.out.size)
        clear hb hR
        by_cases hc0 : at_ < 0
        · go_wp2
          go_ret
          exact ⟨rfl, HB8.out⟩
        by_cases hcm : (m : Int) ≤ at_
        · go_wp2
          go_ret
          exact ⟨rfl, HB8.out⟩
        obtain ⟨k, rfl⟩ : ∃ k : Nat, at_ = k := ⟨at_.toNat, by omega⟩
        have hkm : k < m := by omega
        have hcm' : ¬ (m : Int) ≤ (k : Int) := hcm
        go_wp2_with (at_builtin; refine append_l rfl _ _ rfl (.slice au m cu) xs w8 rfl rfl (HU.out.1.below HB8.out) (by have := HM15.out; omega) ?_)
        intro v9 w9 ps hps hnm ho hb
        have HP : Hid (ps.map (·.1) = xs ∧ (∀ p ∈ ps, Sq w8 p.2 p.1.names) ∧ ps.length = xs.length) := ⟨hps, fun p hp => hnm p.1 p.2 hp, by rw [← hps, List.length_map]⟩
        have HB9 : Hid (Below w8.heap.size w8 w9) := hb
        have HO9 : Hid (w9.ownsRow w8.heap.size 28 11 v9 ps.length (xcs ps)) := ho
        clear hps hnm hb
        have hmp : ps.length = m := by rw [HP.out.2.2]; exact HM.out.symm
        obtain ⟨g9, c9, rfl, hc9⟩ : ∃ g c, v9 = .slice (some ⟨g, 0, none⟩) m c ∧ m ≤ c := by
          rcases ho.2 with ⟨rfl, h0⟩ | ⟨g, cap, cur, rfl, _, _, hcap, _⟩
          · omega
          · exact ⟨g, cap, by rw [hmp], by omega⟩
        have HG9 : Hid (w8.heap.size ≤ g9) := (ho.lt g9 rfl).1
        have hpk : ps[k]? = some ps[k] := List.getElem?_eq_getElem (by omega)
        have HPK : Hid (ps[k]? = some ps[k]) := hpk
        rw [hmp] at ho
        have e6 : w9.cell? ⟨g9, k * 11 + 6, none⟩ = some (.int .i64 ps[k].1.ver) := by
          rw [ho.cellAt (k * 11 + 6) (by omega), xcs_get, show (k * 11 + 6) / 11 = k by omega, show (k * 11 + 6) % 11 = 6 by omega, hpk]
          rfl
        have f6 : w9.frozen? ⟨g9, k * 11 + 6, none⟩ = false := ho.frozenAt _
        generalize ps[k] = pk at *
        clear ho hpk
        go_wp2_with fail
        clear e6 f6
        have e46 : k * 11 + 4 + 2 = k * 11 + 6 := by omega
        rw [e46]
        obtain ⟨z, hz⟩ : ∃ z, z = bits .xor .i64 pk.1.ver 1 := ⟨_, rfl⟩
        rw [← hz]
        have HZ : Hid (z ≠ pk.1.ver) := by
          have h : z ≠ pk.1.ver := by rw [hz]; exact xor1_ne _
          exact h
        clear hz e46
        obtain ⟨ys, hys⟩ : ∃ ys, ys = (ps.set k ({ pk.1 with ver := z }, pk.2)).map (·.1) := ⟨_, rfl⟩
        have HYS : Hid (ys = (ps.set k ({ pk.1 with ver := z }, pk.2)).map (·.1)) := hys
        clear hys
        have HMEM : Hid (∀ p ∈ ps.set k ({ pk.1 with ver := z }, pk.2), ∃ q ∈ ps, p.2 = q.2 ∧ p.1.names = q.1.names) := by
          have h : ∀ p ∈ ps.set k ({ pk.1 with ver := z }, pk.2), ∃ q ∈ ps, p.2 = q.2 ∧ p.1.names = q.1.names := fun p hp => by
            rcases List.mem_or_eq_of_mem_set hp with hp | rfl
            · exact ⟨p, hp, rfl, rfl⟩
            · exact ⟨pk, List.mem_of_getElem? HPK.out, rfl, rfl⟩
          exact h
        have HB10 : Hid (Below w8.heap.size w8 (w9.setCell ⟨g9, k * 11 + 6, none⟩ (.int .i64 z))) := Below.reader HB9.out (grownBy_setCell w9 ⟨g9, k * 11 + 6, none⟩ _) (Nat.le_refl _) HG9.out
        have HR10 : Hid (Rl (w9.setCell ⟨g9, k * 11 + 6, none⟩ (.int .i64 z)) (.slice (some ⟨g9, 0, none⟩) m c9) ys) := by
          rw [HYS.out]
          refine rl_own (B := w8.heap.size) ?_ (fun p hp => ?_)
          · rw [← xcs_set ps k pk z HPK.out, List.length_set, hmp]
            have h := HO9.out
            rw [hmp] at h
            exact (h.stored (k * 11 + 6) (.int .i64 z)).1
          · obtain ⟨q, hq, e1, e2⟩ := HMEM.out p hp
            rw [e1, e2]
            exact (HP.out.2.1 q hq).below HB10.out
        have HFY : Hid (ys.length ≤ maxLen ∧ Few ys ∧ ¬ xs = ys) := by
          refine ⟨?_, fun y hy => ?_, fun h => ?_⟩
          · rw [HYS.out, List.length_map, List.length_set, HP.out.2.2]
            exact HU.out.2.1
          · rw [HYS.out] at hy
            obtain ⟨p, hp, rfl⟩ := List.mem_map.1 hy
            obtain ⟨q, hq, _, e2⟩ := HMEM.out p hp
            rw [e2]
            refine HFX.out.1 q.1 ?_
            rw [← HP.out.1]
            exact List.mem_map.2 ⟨q, hq, rfl⟩
          · have h1 : xs[k]? = some pk.1 := by rw [← HP.out.1, List.getElem?_map, HPK.out]; rfl
            have h2 : ys[k]? = some { pk.1 with ver := z } := by
              rw [HYS.out, List.getElem?_map, List.getElem?_set_self (by rw [hmp]; exact hkm)]
              rfl
            rw [h, h2] at h1
            have h3 := congrArg X.ver (Option.some.inj h1)
            exact HZ.out h3
        have HB11 : Hid (Below w.heap.size w (w9.setCell ⟨g9, k * 11 + 6, none⟩ (.int .i64 z))) := HB8.out.trans (HB10.out.mono HB8.out.size)
        generalize w9.setCell ⟨g9, k * 11 + 6, none⟩ (.int .i64 z) = w11 at *
        refine (HS.out.alike False _ _ xs ys _ (HU.out.1.below HB11.out) HR10.out HU.out.2.1 HFY.out.1 HFX.out.1 HFY.out.2.1 ⟨fun h => h.elim, fun h => HFY.out.2.2 h⟩).mono ?_
        rintro e w12 ⟨R, rfl, hR, hb⟩
        have hR1 : R = false := by
          cases R with
          | false => rfl
          | true => exact (hR.1 rfl).elim
        subst hR1
        have HB12 : Hid (Below w.heap.size w w12) := HB11.out.trans (hb.mono HB11.out.size)
        clear hb hR
        go_wp2
        go_ret
        exact ⟨rfl, HB12.out⟩
end Go.Proofs.Ytebmcjhhoionbab
