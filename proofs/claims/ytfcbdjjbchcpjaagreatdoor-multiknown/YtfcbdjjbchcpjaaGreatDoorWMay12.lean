/- What op.May answers, of every request. -/
import Derived.Test.YtfcbdjjbchcpjaaGreatDoorWGood11
import Derived.Test.YtfcbdjjbchcpjaaGreatDoorShelf13
namespace Go.Proofs.YtfcbdjjbchcpjaaGreatDoor
open Go.RowKit Go.Shelf
def MaySpec : Prop := ∀ (s n : Int) (u : Value) (os : List O) (w : World), Pa.Std w → Ol w u os → os.length ≤ maxLen → (∀ o ∈ os, OFit o) →
  Calls Tryz.prog 81 #[.agg #[.int .i64 s, .int .i64 n, u]] w fun e w' => e = .returned (.int .i64 (Oq.may s n os)) ∧ Below w.heap.size w w'
/-- An Op there is. -/
abbrev inhO : Inhabited O := ⟨⟨0, ⟨#[]⟩, ⟨#[]⟩, 0, 0⟩⟩

set_option maxRecDepth 20000 in
set_option maxHeartbeats 1000000 in
theorem reads_any (o : O) (w : World) :
    Calls Tryz.prog 114 #[ov o] w fun e w' => e = .returned (.bool (decide (o.kind = 5) || decide (o.kind = 6) || decide (o.kind = 7))) ∧ Below w.heap.size w w' := by
  have HBX : Hid (Box5 (w.alloc (.cells #[.int .i64 o.kind, .string o.path, .string o.data, .int .i64 o.ver, .int .i64 o.flags] 34)) w.heap.size o) := Box5.made w o _
  have HB0 : Hid (Below w.heap.size w (w.alloc (.cells #[.int .i64 o.kind, .string o.path, .string o.data, .int .i64 o.ver, .int .i64 o.flags] 34))) := (Below.refl _ w).alloc (Nat.le_refl _) _
  obtain ⟨K, p, d, V, F⟩ := o
  simp only [] at HBX HB0 ⊢
  unfold ov
  go_enter Tryz.func114, Tryz.ntmps114
  go_upto_region 1 with fail
  generalize w.alloc (.cells #[.int .i64 K, .string p, .string d, .int .i64 V, .int .i64 F] 34) = w1 at *
  obtain ⟨c0, c1, c2, c3, c4⟩ := HBX.out
  simp only [] at c0 c1 c2 c3 c4
  clear c1 c2 c3 c4 HBX
  have hkk : K = 5 ∨ K = 6 ∨ K = 7 ∨ (¬ K = 5 ∧ ¬ K = 6 ∧ ¬ K = 7) := by omega
  rcases hkk with rfl | rfl | rfl | ⟨k5, k6, k7⟩
  all_goals
    go_wp2
    go_ret
    exact ⟨by first | rfl | simp | simp [k5, k6, k7], HB0.out⟩

set_option maxRecDepth 20000 in
set_option maxHeartbeats 1000000 in
theorem indexFunc_none (a : Option Addr) (c : Nat) (fv : Value) (w : World) :
    Calls Tryz.prog 143 #[.slice a 0 c, fv] w fun e w' => e = .returned (.int .i64 (-1)) ∧ w' = w := by
  go_enter Tryz.func143, Tryz.ntmps143
  go_wp2
  go_loopg [5, 8] 0 (fun _ _ s8 wr => s8 = .int .i64 0 ∧ wr = w)
  case atStart => exact ⟨rfl, rfl⟩
  case round =>
    obtain ⟨rfl, rfl⟩ := hrel
    go_wp2
    go_ret
    exact ⟨rfl, rfl⟩

set_option maxRecDepth 20000 in
set_option maxHeartbeats 1000000 in
theorem containsFunc_none (a : Option Addr) (c : Nat) (fv : Value) (w : World) :
    Calls Tryz.prog 113 #[.slice a 0 c, fv] w fun e w' => e = .returned (.bool false) ∧ w' = w := by
  go_enter Tryz.func113, Tryz.ntmps113
  go_wp2_with (go_at_call 143; refine (indexFunc_none a c fv _).mono ?_; rintro e w' ⟨rfl, rfl⟩)
  go_ret
  exact ⟨rfl, rfl⟩

/-- The cells of Ops in the library's words. -/
theorem Ol.cells {w : World} {v : Value} {os : List O} (h : Ol w v os) (h0 : 0 < os.length) : ∃ g b c, v = .slice (some ⟨g, b, none⟩) os.length c ∧ g < w.heap.size ∧ ∀ (j : Nat) (_ : j < os.length) (i : Nat) x, (oc (@getElem! (List O) Nat O _ _ inhO os j))[i]? = some x → w.cell? ⟨g, b + j * 5 + i, none⟩ = some x := by
  letI := inhO
  obtain ⟨av, k, c, rfl, hk, hc, hn, hs⟩ := h
  obtain ⟨g, b, rfl, hcell⟩ := hs 0 os[0] (List.getElem?_eq_getElem h0)
  have hlt := World.block_lt_of_cell? w _ (hcell 0 _ rfl)
  refine ⟨g, b, c, by rw [hk], hlt, fun j hj i x hx => ?_⟩
  rw [show (@getElem! (List O) Nat O _ _ inhO os j) = os[j] from getElem!_pos os j hj] at hx
  obtain ⟨g', b', e, hcell'⟩ := hs j os[j] (List.getElem?_eq_getElem hj)
  simp only [Option.some.injEq, Addr.mk.injEq, and_true] at e
  obtain ⟨rfl, rfl⟩ := e
  have := hcell' i x hx
  rw [← Nat.add_assoc] at this
  exact this

/-- slices.ContainsFunc over Ops, with a function of the program's that makes nothing but new memory. -/
theorem containsFunc_any (g : Nat) (p : O → Bool) (eg : ∀ args w, (callFunc g args).run Tryz.prog w = .ok (.enter g args) w) (hp : ∀ (o : O) (w : World), Calls Tryz.prog g #[ov o] w fun e w' => e = .returned (.bool (p o)) ∧ Below w.heap.size w w')
    (u : Value) (os : List O) (w : World) (hu : Ol w u os) (hl : os.length ≤ maxLen) :
    Calls Tryz.prog 113 #[u, .func (.func g) #[] #[]] w fun e w' => e = .returned (.bool (os.any p)) ∧ Below w.heap.size w w' := by
  rcases Nat.eq_zero_or_pos os.length with h0 | h0
  · obtain ⟨av, k, c, rfl, hk, _⟩ := hu
    obtain rfl : os = [] := List.eq_nil_of_length_eq_zero h0
    obtain rfl : k = 0 := hk
    refine (containsFunc_none av c _ w).mono ?_
    rintro e w' ⟨rfl, rfl⟩
    exact ⟨rfl, Below.refl _ _⟩
  · obtain ⟨gb, b, c, rfl, hlt, hcs⟩ := hu.cells h0
    have hpb : PredBelow Tryz.prog g #[] (fun x => .agg (oc x).toArray) p w := fun W x hb => (hp x W).mono fun e w' ⟨h1, h2⟩ => ⟨h1, hb.trans (h2.mono hb.size)⟩
    have h := @Tryz.slices_ContainsFunc_Op O inhO 5 Tryz.isAgg34 Tryz.sizeOf34 oc (fun _ => rfl) p g #[] eg gb b os.length c os w hpb (Nat.le_refl _) (by unfold maxLen at hl; exact hl) hlt hcs
    rw [List.take_length] at h
    exact h

/-- Of Ops that may be, those that read are those of a Kind from 5 on. -/
theorem any_reads {os : List O} (h : Oq.firstBad os = 0) : (os.any fun o => decide (o.kind = 5) || decide (o.kind = 6) || decide (o.kind = 7)) = os.any fun o => decide (5 ≤ o.kind) := by
  have hg := firstBad_none h
  clear h
  induction os with
  | nil => rfl
  | cons o os ih =>
    have h1 := hg o (by simp)
    have hk : 1 ≤ o.kind ∧ o.kind ≤ 7 := by
      cases hh : Oq.headB o with
      | true =>
        rw [Oq.good_head hh] at h1
        cases h1
      | false => exact ⟨(Oq.head_no hh).1, (Oq.head_no hh).2.1⟩
    have e : (decide (o.kind = 5) || decide (o.kind = 6) || decide (o.kind = 7)) = decide (5 ≤ o.kind) := by
      by_cases h5 : 5 ≤ o.kind
      · rw [decide_eq_true h5]
        have h6 : o.kind = 5 ∨ o.kind = 6 ∨ o.kind = 7 := by omega
        rcases h6 with h6 | h6 | h6 <;> simp [h6]
      · rw [decide_eq_false h5, decide_eq_false (by omega), decide_eq_false (by omega), decide_eq_false (by omega)]
        rfl
    rw [List.any_cons, List.any_cons, e, ih (fun x hx => hg x (by simp [hx]))]

set_option maxRecDepth 20000 in
set_option maxHeartbeats 4000000 in
theorem may_spec : MaySpec := by
  intro s n u os w hS hu hl hfit
  have HU : Hid (Ol w u os ∧ os.length ≤ maxLen ∧ ∀ o ∈ os, OFit o) := ⟨hu, hl, hfit⟩
  have HBX : Hid (Box3 (w.alloc (.cells #[.int .i64 s, .int .i64 n, u] 79)) w.heap.size s n u) := Box3.made w s n u _
  have HB0 : Hid (Below w.heap.size w (w.alloc (.cells #[.int .i64 s, .int .i64 n, u] 79))) := (Below.refl _ w).alloc (Nat.le_refl _) _
  have HST : Hid (Pa.Std w) := hS
  obtain ⟨R, hR⟩ : ∃ R : Int, R = Oq.may s n os := ⟨_, rfl⟩
  have HR : Hid (R = Oq.may s n os) := hR
  rw [← hR]
  obtain ⟨au, m, cu, rfl, hm, hX⟩ := hu
  have HM : Hid (m = os.length) := hm
  clear hR hS hm hX hl hfit
  have eg : ∀ args w, (callFunc 114 args).run Tryz.prog w = .ok (.enter 114 args) w := enters_of Tryz.func114 (by kernel_rfl) rfl
  have HE : Hid (∀ args w, (callFunc 114 args).run Tryz.prog w = .ok (.enter 114 args) w) := eg
  clear eg
  go_enter Tryz.func81, Tryz.ntmps81
  go_upto_region 1 with fail
  generalize w.alloc (.cells #[.int .i64 s, .int .i64 n, .slice au m cu] 79) = w1 at *
  obtain ⟨c0, c1, c2⟩ := HBX.out
  by_cases h1 : s < 1
  · have H3 : Hid (R = 1) := by
      have h : R = 1 := by rw [HR.out]; unfold Oq.may; rw [if_pos (Or.inl h1)]
      exact h
    go_wp2
    go_ret
    rw [H3.out]
    exact ⟨rfl, HB0.out⟩
  by_cases h2 : n < 1
  · have H3 : Hid (R = 1) := by
      have h : R = 1 := by rw [HR.out]; unfold Oq.may; rw [if_pos (Or.inr (Or.inl h2))]
      exact h
    go_wp2
    go_ret
    rw [H3.out]
    exact ⟨rfl, HB0.out⟩
  by_cases h3 : m = 0
  · have H3 : Hid (R = 1) := by
      have h : R = 1 := by rw [HR.out]; unfold Oq.may; rw [if_pos (Or.inr (Or.inr (by rw [← HM.out]; exact h3)))]
      exact h
    subst h3
    go_wp2
    go_ret
    rw [H3.out]
    exact ⟨rfl, HB0.out⟩
  have h3' : ¬ (m : Int) = 0 := by omega
  by_cases h16 : 16 < m
  · have h16' : (16 : Int) < (m : Int) := by omega
    have H3 : Hid (R = 2) := by
      have h : R = 2 := by rw [HR.out]; unfold Oq.may; rw [if_neg (by rw [← HM.out]; omega), if_pos (by rw [← HM.out]; exact h16)]
      exact h
    clear h3
    go_wp2
    go_ret
    rw [H3.out]
    exact ⟨rfl, HB0.out⟩
  have h16' : ¬ (16 : Int) < (m : Int) := by omega
  have HR2 : Hid (R = if Oq.firstBad os ≠ 0 then Oq.firstBad os else if 1 < os.length ∧ os.any (fun o => decide (5 ≤ o.kind)) = true then 1 else 0) := by
    have h : R = if Oq.firstBad os ≠ 0 then Oq.firstBad os else if 1 < os.length ∧ os.any (fun o => decide (5 ≤ o.kind)) = true then 1 else 0 := by
      rw [HR.out]; unfold Oq.may; rw [if_neg (by rw [← HM.out]; omega), if_neg (by rw [← HM.out]; exact h16)]
    exact h
  clear h3
  go_wp2
  go_loopw [27] (fun i wr => ∃ k : Nat, k ≤ m ∧ i = .int .i64 (k : Int) ∧ Oq.firstBad (os.take k) = 0 ∧ Below w1.heap.size w1 wr) (fun i _ => ((m : Int) - intOf i).toNat)
  case atStart => exact ⟨0, Nat.zero_le _, rfl, rfl, Below.refl _ _⟩
  case round =>
    obtain ⟨k, hk, rfl, hany, hb⟩ := hrel
    have HA : Hid (Oq.firstBad (os.take k) = 0) := hany
    have HB1 : Hid (Below w1.heap.size w1 wr) := hb
    have HB : Hid (Below w.heap.size w wr) := HB0.out.trans (hb.mono HB0.out.size)
    obtain ⟨d0, d1, d2⟩ := HBX.out.below hb
    clear hany hb c0 c1 c2
    by_cases hlt : k < m
    · have hlt' : (k : Int) < (m : Int) := by omega
      have hkl : k < os.length := by rw [← HM.out]; exact hlt
      obtain ⟨g, b, c', hv', hcs⟩ := (HU.out.1.below HB.out).at (by omega)
      simp only [Value.slice.injEq] at hv'
      obtain ⟨rfl, hq, rfl⟩ := hv'
      obtain ⟨e0, e1, e2, e3, e4⟩ := hcs k os[k] (List.getElem?_eq_getElem hkl)
      have HK : Hid (os[k]? = some os[k] ∧ OFit os[k]) := ⟨List.getElem?_eq_getElem hkl, HU.out.2.2 _ (List.getElem_mem hkl)⟩
      generalize os[k] = o at *
      clear hcs hq hkl
      have HAL : Hid (Below wr.heap.size wr (wr.alloc (.cells #[.int .i64 o.kind, .string o.path, .string o.data, .int .i64 o.ver, .int .i64 o.flags] 34))) := (Below.refl _ wr).alloc (Nat.le_refl _) _
      go_wp2_with fail
      refine (good_spec o _ ((HST.out.below HB.out).below HAL.out) HK.out.2).mono ?_
      rintro e w2 ⟨rfl, hb⟩
      have hb2 : Below wr.heap.size wr w2 := HAL.out.trans (hb.mono HAL.out.size)
      have HB2 : Hid (Below w1.heap.size w1 w2) := HB1.out.trans (hb2.mono HB1.out.size)
      have HBW : Hid (Below w.heap.size w w2) := HB.out.trans (hb2.mono HB.out.size)
      clear hb hb2 HAL d0 d1 d2 e0 e1 e2 e3 e4
      obtain ⟨E, hE⟩ : ∃ E, E = Oq.good o := ⟨_, rfl⟩
      have HE : Hid (E = Oq.good o) := hE
      rw [← hE]
      clear hE
      have HF := Oq.firstBad_take HK.out.1 HA.out
      have HF : Hid ((Oq.good o ≠ 0 → Oq.firstBad os = Oq.good o) ∧ (Oq.good o = 0 → Oq.firstBad (os.take (k + 1)) = 0)) := HF
      by_cases hE0 : E = 0
      · have HA2 : Hid (Oq.firstBad (os.take (k + 1)) = 0) := by
          have h : Oq.firstBad (os.take (k + 1)) = 0 := HF.out.2 (by rw [← HE.out]; exact hE0)
          exact h
        subst hE0
        go_wp2
        go_roundw
        case rel => exact ⟨k + 1, by omega, by go_num, HA2.out, HB2.out⟩
        case measure => simp [intOf]; omega
      · have H3 : Hid (R = E) := by
          have h : R = E := by
            have hne : Oq.good o ≠ 0 := by rw [← HE.out]; exact hE0
            rw [HR2.out, HF.out.1 hne, if_pos hne, HE.out]
          exact h
        go_wp2
        go_ret
        rw [H3.out]
        exact ⟨rfl, HBW.out⟩
    · have hlt' : ¬ (k : Int) < (m : Int) := by omega
      have HFB : Hid (Oq.firstBad os = 0) := by
        have h2 := HA.out
        rw [List.take_of_length_le (by rw [← HM.out]; omega)] at h2
        exact h2
      have HR3 : Hid (R = if 1 < os.length ∧ os.any (fun o => decide (5 ≤ o.kind)) = true then 1 else 0) := by
        have h : R = if 1 < os.length ∧ os.any (fun o => decide (5 ≤ o.kind)) = true then 1 else 0 := by
          rw [HR2.out, HFB.out]
          rfl
        exact h
      by_cases hm1 : 1 < m
      · have hm1' : (1 : Int) < (m : Int) := by omega
        have HM1 : Hid (1 < os.length) := by
          have h : 1 < os.length := by rw [← HM.out]; exact hm1
          exact h
        go_wp2_with fail
        refine (containsFunc_any 114 _ HE.out reads_any _ os _ (HU.out.1.below HB.out) HU.out.2.1).mono ?_
        rintro e w2 ⟨rfl, hb⟩
        rw [any_reads HFB.out]
        have HBW : Hid (Below w.heap.size w w2) := HB.out.trans (hb.mono HB.out.size)
        clear hb d0 d1 d2
        obtain ⟨C, hC⟩ : ∃ C : Bool, C = os.any (fun o => decide (5 ≤ o.kind)) := ⟨_, rfl⟩
        have HR4 : Hid (R = if C = true then 1 else 0) := by
          have h : R = if C = true then 1 else 0 := by
            rw [HR3.out, hC]
            by_cases h2 : os.any (fun o => decide (5 ≤ o.kind)) = true
            · rw [if_pos ⟨HM1.out, h2⟩, if_pos h2]
            · rw [if_neg (fun h => h2 h.2), if_neg h2]
          exact h
        rw [← hC]
        clear hC
        cases C with
        | true =>
          have H3 : Hid (R = 1) := HR4.out
          go_wp2
          go_ret
          rw [H3.out]
          exact ⟨rfl, HBW.out⟩
        | false =>
          have H3 : Hid (R = 0) := HR4.out
          go_wp2
          go_ret
          rw [H3.out]
          exact ⟨rfl, HBW.out⟩
      · have hm1' : ¬ (1 : Int) < (m : Int) := by omega
        have H3 : Hid (R = 0) := by
          have h : R = 0 := by
            rw [HR3.out, if_neg]
            rintro ⟨h1, _⟩
            rw [← HM.out] at h1
            exact hm1 h1
          exact h
        clear hm1
        go_wp2
        go_ret
        rw [H3.out]
        exact ⟨rfl, HB.out⟩
end Go.Proofs.YtfcbdjjbchcpjaaGreatDoor
