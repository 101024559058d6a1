/- The reference's Fire. -/
import Derived.Test.YtjejpkognjedpaaDoorRefD13
import Derived.Test.YtjejpkognjedpaaDoorActs13
namespace Go.Proofs.YtjejpkognjedpaaDoor
open Go.RowKit

/-- One more event onto an owned row of the reference's; where it lies then. -/
theorem wpList_evq13 {ops : Array Oper} {rest : List Oper} {o : Oper} {a : Act} {Q : Exit → Act → World → Prop} (hgd : o.guard = none) (s x : Operand)
    (ho : o.op = .call { callee := .builtin .append, args := #[s, x], argTypes := #[36, 36] })
    (B : Nat) (v : Value) (l : List Hq.Wt) (y : Hq.Wt) (sb : Nat) (w : World) (hs : a.eval s = v) (hx : a.eval x = .slice (some ⟨sb, 0, none⟩) 1 1) (hown : w.ownsRow B 63 3 v l.length (evs13 l)) (hB : B ≤ w.heap.size) (hc : Cb w sb (ev y) 63) (hN : l.length ≤ 3000)
    (h : ∀ v' w', w'.ownsRow B 63 3 v' (l ++ [y]).length (evs13 (l ++ [y])) → w.grownBy w' v.ownBlock → (v'.ownBlock = v.ownBlock ∨ v'.ownBlock = some w.heap.size) → wpList Tryd.prog ops Q rest (a.put o.dst v') w') : wpList Tryd.prog ops Q (o :: rest) a w := by
  refine wpList_plain hgd fun K hK => ?_
  obtain ⟨i0, hi, hz0, hz1, hz2⟩ := info_parts infoRv
  have hcell : ∀ j u, (ev y)[j]? = some u → w.cell? ((⟨sb, 0, none⟩ : Addr).add j) = some u := fun j u hu => by
    rw [Addr.add_lit, Nat.zero_add, hc.cell j]
    exact hu
  obtain ⟨v', w', hr, h2, h3, h4, h5⟩ := run_append_own_at (P := Tryd.prog) w B 36 o.type 63 i0 _ 3 32 Tryd.underlying36 hi hz0 hz1 hz2 rfl (by decide) v l.length (evs13 l) hown ⟨sb, 0, none⟩ 1 1 (ev y) rfl hcell (by have := evs13_one [y]; simpa [evs13] using this) (by unfold maxLen; omega) (by omega) hB
  unfold Oper.wp execOp
  simp only [ho, resolve, invoke, builtin, Sem.run_bind, Sem.run_pure, Result.andThen_ok, List.map_toArray, List.map_cons, List.map_nil, hs, hx, hr]
  refine hK _ _ (h v' w' ?_ h3 h5)
  rw [evs13_app, List.length_append]
  simpa [evs13] using h2
def tl13 (l : List Hq.Wt) (p : ByteArray) (ch : Int) (k : Nat) : List Hq.Wt := ((l.take k).filter (Hq.hears p ch)).map (Hq.told p ch)
def rs13 (l : List Hq.Wt) (p : ByteArray) (ch : Int) (k : Nat) : List Hq.Wt := (l.take k).filter fun x => !Hq.hears p ch x
theorem tl13_le (l : List Hq.Wt) (p : ByteArray) (ch : Int) (k : Nat) : (tl13 l p ch k).length ≤ k := by
  unfold tl13
  rw [List.length_map]
  have e1 := List.length_filter_le (Hq.hears p ch) (l.take k)
  rw [List.length_take] at e1
  omega
theorem rs13_le (l : List Hq.Wt) (p : ByteArray) (ch : Int) (k : Nat) : (rs13 l p ch k).length ≤ k := by
  unfold rs13
  have e1 := List.length_filter_le (fun x => !Hq.hears p ch x) (l.take k)
  rw [List.length_take] at e1
  omega
theorem step_yes13 {l : List Hq.Wt} {p : ByteArray} {ch : Int} {k : Nat} {x : Hq.Wt} (hx : l[k]? = some x) (h : Hq.hears p ch x = true) : tl13 l p ch (k + 1) = tl13 l p ch k ++ [Hq.told p ch x] ∧ rs13 l p ch (k + 1) = rs13 l p ch k := by
  unfold tl13 rs13
  rw [filter_snoc13 hx, filter_snoc13 hx]
  simp [h]
theorem step_no13 {l : List Hq.Wt} {p : ByteArray} {ch : Int} {k : Nat} {x : Hq.Wt} (hx : l[k]? = some x) (h : Hq.hears p ch x = false) : tl13 l p ch (k + 1) = tl13 l p ch k ∧ rs13 l p ch (k + 1) = rs13 l p ch k ++ [x] := by
  unfold tl13 rs13
  rw [filter_snoc13 hx, filter_snoc13 hx]
  simp [h]
/-- What the reference's Fire has under way. -/
structure Rg13 (w wx : World) (l : List Hq.Wt) (p : ByteArray) (ch : Int) (k : Nat) (ut ur : Value) : Prop where
  below : Below w.heap.size w wx
  told : wx.ownsRow w.heap.size 63 3 ut (tl13 l p ch k).length (evs13 (tl13 l p ch k))
  rest : wx.ownsRow w.heap.size 63 3 ur (rs13 l p ch k).length (evs13 (rs13 l p ch k))
  apart : ut.ownBlock = none ∨ ut.ownBlock ≠ ur.ownBlock
section
variable {w wx wy : World} {l : List Hq.Wt} {p : ByteArray} {ch : Int} {k : Nat} {ut ur v' : Value}
theorem Rg13.later (h : Rg13 w wx l p ch k ut ur) (hb : Below wx.heap.size wx wy) : Rg13 w wy l p ch k ut ur :=
  ⟨h.below.trans (hb.mono h.below.size), row_stays h.told fun j hj => hb.block j (h.told.lt j hj).2, row_stays h.rest fun j hj => hb.block j (h.rest.lt j hj).2, h.apart⟩
theorem Rg13.tell (h : Rg13 w wx l p ch k ut ur) {x : Hq.Wt} (hx : l[k]? = some x) (hh : Hq.hears p ch x = true) (hg : wx.grownBy wy ut.ownBlock) (hv : v'.ownBlock = ut.ownBlock ∨ v'.ownBlock = some wx.heap.size)
    (ho : wy.ownsRow w.heap.size 63 3 v' (tl13 l p ch k ++ [Hq.told p ch x]).length (evs13 (tl13 l p ch k ++ [Hq.told p ch x]))) : Rg13 w wy l p ch (k + 1) v' ur := by
  have e := step_yes13 hx hh
  have hne : ur.ownBlock = none ∨ ur.ownBlock ≠ ut.ownBlock := by
    rcases h.apart with h1 | h1
    · cases h2 : ur.ownBlock with
      | none => exact Or.inl rfl
      | some j => rw [h1]; exact Or.inr (by simp)
    · exact Or.inr (fun e => h1 e.symm)
  refine ⟨h.below.grown hg h.below.size (fun j hj => (h.told.lt j hj).1), by rw [e.1]; exact ho, by rw [e.2]; exact h.rest.kept hg hne, ?_⟩
  rcases hv with hv | hv
  · rw [hv]
    exact h.apart
  · rw [hv]
    refine Or.inr (fun e2 => ?_)
    have := (h.rest.lt _ e2.symm).2
    omega
theorem Rg13.stay (h : Rg13 w wx l p ch k ut ur) {x : Hq.Wt} (hx : l[k]? = some x) (hh : Hq.hears p ch x = false) (hg : wx.grownBy wy ur.ownBlock) (hv : v'.ownBlock = ur.ownBlock ∨ v'.ownBlock = some wx.heap.size)
    (ho : wy.ownsRow w.heap.size 63 3 v' (rs13 l p ch k ++ [x]).length (evs13 (rs13 l p ch k ++ [x]))) : Rg13 w wy l p ch (k + 1) ut v' := by
  have e := step_no13 hx hh
  refine ⟨h.below.grown hg h.below.size (fun j hj => (h.rest.lt j hj).1), by rw [e.1]; exact h.told.kept hg h.apart, by rw [e.2]; exact ho, ?_⟩
  rcases hv with hv | hv
  · rw [hv]
    exact h.apart
  · rw [hv]
    cases h2 : ut.ownBlock with
    | none => exact Or.inl rfl
    | some j =>
      refine Or.inr (fun e2 => ?_)
      have := (h.told.lt j h2).2
      simp only [Option.some.injEq] at e2
      omega
end
/-- The Parent, and whether there is one. -/
theorem refParent_any13 (p : ByteArray) (w : World) (hg : Pl.goodB p.data.toList = true) :
    Calls Tryd.prog 29 #[.string p] w fun e w' => ∃ b, e = .returned (.tuple #[.string (Hq.up p), .bool b]) ∧ (b = false → Hq.up p = ⟨#[]⟩) ∧ Below w.heap.size w w' := by
  by_cases h2 : 2 ≤ (Pl.parts p.data.toList).length
  · refine (Pa.refParent_yes p w hg h2).mono ?_
    rintro e w' ⟨x, rfl, hx, hb⟩
    have e : x = Hq.up p := by
      apply ByteArray.ext
      apply Array.toList_inj.1
      rw [hx]
      simp [Hq.up]
    rw [e]
    exact ⟨true, rfl, fun h => (by cases h), hb⟩
  · have hgp := Pl.good_parts hg
    have hsz : p.size = p.data.toList.length := Lib.size_eq p
    refine (Pa.refParent_no p w (by unfold maxLen; omega) (by omega)).mono ?_
    rintro e w' ⟨rfl, hb⟩
    have e : Hq.up p = ⟨#[]⟩ := by
      unfold Hq.up Pl.parent
      match hp : Pl.parts p.data.toList with
      | [] => rfl
      | [a] => rfl
      | a :: b :: r => rw [hp] at h2; simp at h2
    rw [e]
    exact ⟨false, rfl, fun _ => rfl, hb⟩


theorem pathNe13 {a b : ByteArray} (h : a ≠ b) : (a.toList == b.toList) = false := by
  cases e : (a.toList == b.toList) with
  | false => rfl
  | true => exact absurd (bytes_eq e) h
set_option maxRecDepth 20000 in
set_option maxHeartbeats 8000000 in
theorem refFire_yes13 (q : Nat) (s : Hq.St) (v : Value) (p : ByteArray) (ch : Int) (w : World) (hl : Rr13 w q s v) (hf : Hq.Fine s) (h1 : 1 ≤ ch) (h3 : ch ≤ 3) (hg : Pl.goodB p.data.toList = true) :
    Calls Tryd.prog 16 #[dptr q, .string p, .int .i64 ch] w fun e w' => ∃ F' u, e = .returned u ∧ Ev w' u (Hq.events s p ch) ∧ (∀ k, u.ownBlock = some k → w.heap.size ≤ k ∧ ¬ F' k) ∧ LRf w' q (Hq.fired s p ch) F' ∧ Moved w w' (Fw13 v q) F' := by
  obtain ⟨N, hN⟩ : ∃ N, N = s.l.length := ⟨_, rfl⟩
  have hr := hl.row
  rw [← hN] at hr
  obtain ⟨a, c, rfl, hNc, hj⟩ := row_form hr
  have hN1 : N ≤ 1000 := by rw [hN]; exact hf.len
  have hsz : p.size ≤ maxLen := by
    have e1 := (Pl.good_parts hg).2.2
    have e2 : p.size = p.data.toList.length := Lib.size_eq p
    unfold maxLen
    omega
  have HG : Hid (Calls Tryd.prog 27 #[.string p] w fun e w' => e = .returned (.bool true) ∧ Below w.heap.size w w') := by
    rw [← hg]
    exact Pa.refGood_any p w hsz
  have HPA : Hid (∀ w', Below w.heap.size w w' → Calls Tryd.prog 29 #[.string p] w' fun e w'' => ∃ b, e = .returned (.tuple #[.string (Hq.up p), .bool b]) ∧ (b = false → Hq.up p = ⟨#[]⟩) ∧ Below w'.heap.size w' w'') := fun w' hb => refParent_any13 p w' hg
  have H0 : Hid (Rr13 w q s (.slice a N c) ∧ N = s.l.length ∧ Hq.Fine s ∧ Hq.can p ch = true ∧ (0 < N → ∃ g, a = some ⟨g, 0, none⟩) ∧ (Hq.up p).size < p.size) := ⟨hl, hN, hf, Hq.can_iff.2 ⟨h1, h3, hg⟩, hj, Hq.up_short hg⟩
  have hc1 : ¬ ch < 1 := by omega
  have hc3 : ¬ 3 < ch := by omega
  clear hl hf hN hj hr h1 h3 hg hsz
  obtain ⟨u, hu⟩ : ∃ u, u = Hq.up p := ⟨_, rfl⟩
  rw [← hu] at HPA
  have HU : Hid (u = Hq.up p) := hu
  clear hu
  unfold dptr
  go_enter Tryd.func16, Tryd.ntmps16
  go_wp2_with fail
  refine HG.out.mono ?_
  rintro e w1 ⟨rfl, hb1⟩
  have H1 : Hid (Below w.heap.size w w1) := hb1
  clear hb1 HG
  go_wp2_with fail
  refine (HPA.out _ H1.out).mono ?_
  rintro e w2 ⟨bp, rfl, hbp, hb2⟩
  have H2 : Hid (Rg13 w w2 s.l p ch 0 (.slice none 0 0) (.slice none 0 0)) := ⟨H1.out.trans (hb2.mono H1.out.size), World.ownsRow_nil _ _ _ _, World.ownsRow_nil _ _ _ _, Or.inl rfl⟩
  have HBP : Hid (bp = false → u = ⟨#[]⟩) := hbp
  clear hb2 hbp HPA H1
  go_wp2
  go_loopw [9, 10, 11] (fun t r i wx => ∃ k : Nat, k ≤ N ∧ i = .int .i64 (k : Int) ∧ Rg13 w wx s.l p ch k t r) (fun _ _ i _ => N - (intOf i).toNat)
  case atStart => exact ⟨0, Nat.zero_le _, rfl, H2.out⟩
  case round =>
    obtain ⟨k, hk, rfl, hI⟩ := hrel
    obtain ⟨ta, tc, ht9, j1, j2⟩ := row_form hI.told
    obtain ⟨ra, rc, ht10, j3, j4⟩ := row_form hI.rest
    obtain ⟨E, hE⟩ : ∃ E, E = (tl13 s.l p ch k).length := ⟨_, rfl⟩
    obtain ⟨R, hR⟩ : ∃ R, R = (rs13 s.l p ch k).length := ⟨_, rfl⟩
    rw [← hE] at ht9
    rw [← hR] at ht10
    subst ht9 ht10
    have H3 : Hid (Rg13 w wr s.l p ch k (.slice ta E tc) (.slice ra R rc)) := hI
    clear hI H2 j1 j2 j3 j4 hE hR
    have c1 : wr.cell? ⟨q, 1, none⟩ = some (.slice a N c) := (H0.out.1.later H3.out.below).blk.cell 1
    by_cases hlt : k < N
    · have hlt' : (k : Int) < (N : Int) := by omega
      have hk0 : (0 : Int) ≤ (k : Int) := by omega
      have hwk : IntKind.wrap .i64 ((k : Int) + 1) = (k : Int) + 1 := by rw [IntKind.wrap_i64]; omega
      obtain ⟨g, hg⟩ := H0.out.2.2.2.2.1 (by omega)
      subst hg
      obtain ⟨x, hx⟩ : ∃ x, s.l[k]? = some x := ⟨s.l[k]'(by rw [← H0.out.2.1]; exact hlt), List.getElem?_eq_getElem _⟩
      have HX : Hid (s.l[k]? = some x) := hx
      have HMY : Hid (Hq.may x = true) := H0.out.2.2.1.ok x (List.mem_of_getElem? hx)
      have hrw := (H0.out.1.later H3.out.below).row
      rw [← H0.out.2.1] at hrw
      obtain ⟨r0, r1, r2⟩ := rrow_at13 hrw hx
      clear hx hrw
      obtain ⟨xb, hxb⟩ : ∃ z, z = wr.heap.size := ⟨_, rfl⟩
      have H4 : Hid (Rg13 w (wr.alloc (.cells #[.int .i64 x.sess, .string x.path, .int .i64 x.kind] 63)) s.l p ch k (.slice ta E tc) (.slice ra R rc) ∧ Cb (wr.alloc (.cells #[.int .i64 x.sess, .string x.path, .int .i64 x.kind] 63)) xb (ev x) 63) := by
        have hb := (Below.refl _ wr).alloc (Nat.le_refl _) (.cells #[.int .i64 x.sess, .string x.path, .int .i64 x.kind] 63)
        rw [hxb]
        exact ⟨H3.out.later hb, Cb.made wr _ _⟩
      go_upto_region 10 with fail
      rw [← hxb]
      clear hxb r0 r1 r2 H3 c1
      generalize (wr.alloc (.cells #[.int .i64 x.sess, .string x.path, .int .i64 x.kind] 63)) = w3 at *
      have d0 : w3.cell? ⟨xb, 0, none⟩ = some (.int .i64 x.sess) := H4.out.2.cell 0
      have d1 : w3.cell? ⟨xb, 1, none⟩ = some (.string x.path) := H4.out.2.cell 1
      have d2 : w3.cell? ⟨xb, 2, none⟩ = some (.int .i64 x.kind) := H4.out.2.cell 2
      have hkd : x.kind = 1 ∨ x.kind = 2 := (Hq.may_iff.1 HMY.out).2.2
      by_cases hp : x.path = p
      · have hpb : (x.path.toList == p.toList) = true := by rw [hp]; simp
        rcases hkd with hk1 | hk2
        · have b1 : (x.kind == 1) = true := by simp [hk1]
          have HPR : Hid (Hq.hears p ch x = true ∧ Hq.told p ch x = ⟨x.sess, ch, p⟩) := ⟨by unfold Hq.hears; simp [hk1, hp], by unfold Hq.told; simp [hk1, hp]⟩
          clear hp hk1
          have HY : Hid (Hq.hears p ch x = true ∧ Hq.told p ch x = ⟨x.sess, ch, p⟩) := HPR.out
          obtain ⟨sb, hsb⟩ : ∃ z, z = w3.heap.size := ⟨_, rfl⟩
          have H6 : Hid (Rg13 w (w3.alloc (.cells #[.int .i64 x.sess, .string p, .int .i64 ch] 63)) s.l p ch k (.slice ta E tc) (.slice ra R rc) ∧ Cb (w3.alloc (.cells #[.int .i64 x.sess, .string p, .int .i64 ch] 63)) sb (ev (Hq.told p ch x)) 63) := by
            have hb := (Below.refl _ w3).alloc (Nat.le_refl _) (.cells #[.int .i64 x.sess, .string p, .int .i64 ch] 63)
            rw [hsb, HY.out.2]
            exact ⟨H4.out.1.later hb, Cb.made w3 _ _⟩
          go_wp2_with (at_builtin; rw [← hsb]; refine wpList_evq13 rfl _ _ rfl w.heap.size (.slice ta E tc) (tl13 s.l p ch k) (Hq.told p ch x) sb (w3.alloc (.cells #[.int .i64 x.sess, .string p, .int .i64 ch] 63)) rfl rfl H6.out.1.told H6.out.1.below.size H6.out.2 (by have := tl13_le s.l p ch k; omega) ?_)
          clear hsb d0 d1 d2
          have HW5 : Hid ((w3.alloc (.cells #[.int .i64 x.sess, .string p, .int .i64 ch] 63)).heap.size = w3.heap.size + 1) := World.size_alloc _ _
          generalize (w3.alloc (.cells #[.int .i64 x.sess, .string p, .int .i64 ch] 63)) = w5 at *
          intro v6 w6 hr6 hg6 hv6
          rw [← HW5.out] at hv6
          have H7 : Hid (Rg13 w w6 s.l p ch (k + 1) v6 (.slice ra R rc)) := H6.out.1.tell HX.out HY.out.1 hg6 hv6 (by simpa using hr6)
          obtain ⟨a6, c6, e6, j1, j2⟩ := row_form H7.out.told
          subst e6
          clear hr6 hg6 hv6 j1 j2
          go_wp2
          go_roundw
          case rel => exact ⟨k + 1, by omega, by go_num, H7.out⟩
          case measure => simp [intOf]; omega
        · have b1 : (x.kind == 1) = false := by simp [hk2]
          have b2 : (x.kind == 2) = true := by simp [hk2]
          by_cases hc2 : ch = 2
          · have bc : (ch == 2) = true := by simp [hc2]
            have HPR : Hid (Hq.hears p ch x = true ∧ Hq.told p ch x = ⟨x.sess, ch, p⟩) := ⟨by unfold Hq.hears; simp [hk2, hp, hc2], by unfold Hq.told; simp [hk2, hp]⟩
            clear hp hk2 hc2
            have HY : Hid (Hq.hears p ch x = true ∧ Hq.told p ch x = ⟨x.sess, ch, p⟩) := HPR.out
            obtain ⟨sb, hsb⟩ : ∃ z, z = w3.heap.size := ⟨_, rfl⟩
            have H6 : Hid (Rg13 w (w3.alloc (.cells #[.int .i64 x.sess, .string p, .int .i64 ch] 63)) s.l p ch k (.slice ta E tc) (.slice ra R rc) ∧ Cb (w3.alloc (.cells #[.int .i64 x.sess, .string p, .int .i64 ch] 63)) sb (ev (Hq.told p ch x)) 63) := by
              have hb := (Below.refl _ w3).alloc (Nat.le_refl _) (.cells #[.int .i64 x.sess, .string p, .int .i64 ch] 63)
              rw [hsb, HY.out.2]
              exact ⟨H4.out.1.later hb, Cb.made w3 _ _⟩
            go_wp2_with (at_builtin; rw [← hsb]; refine wpList_evq13 rfl _ _ rfl w.heap.size (.slice ta E tc) (tl13 s.l p ch k) (Hq.told p ch x) sb (w3.alloc (.cells #[.int .i64 x.sess, .string p, .int .i64 ch] 63)) rfl rfl H6.out.1.told H6.out.1.below.size H6.out.2 (by have := tl13_le s.l p ch k; omega) ?_)
            clear hsb d0 d1 d2
            have HW5 : Hid ((w3.alloc (.cells #[.int .i64 x.sess, .string p, .int .i64 ch] 63)).heap.size = w3.heap.size + 1) := World.size_alloc _ _
            generalize (w3.alloc (.cells #[.int .i64 x.sess, .string p, .int .i64 ch] 63)) = w5 at *
            intro v6 w6 hr6 hg6 hv6
            rw [← HW5.out] at hv6
            have H7 : Hid (Rg13 w w6 s.l p ch (k + 1) v6 (.slice ra R rc)) := H6.out.1.tell HX.out HY.out.1 hg6 hv6 (by simpa using hr6)
            obtain ⟨a6, c6, e6, j1, j2⟩ := row_form H7.out.told
            subst e6
            clear hr6 hg6 hv6 j1 j2
            go_wp2
            go_roundw
            case rel => exact ⟨k + 1, by omega, by go_num, H7.out⟩
            case measure => simp [intOf]; omega
          · have bc : (ch == 2) = false := by simp [hc2]
            have HPR : Hid (Hq.hears p ch x = false) := (show _ = _ by unfold Hq.hears; simp [hk2, hp, hc2])
            have bu : (x.path.toList == u.toList) = false := pathNe13 (fun e => by
              have h1 := H0.out.2.2.2.2.2
              rw [← HU.out, ← e, hp] at h1
              omega)
            clear hp hk2 hc2
            cases bp with
            | false => have HY : Hid (Hq.hears p ch x = false) := HPR.out
                       obtain ⟨sb, hsb⟩ : ∃ z, z = w3.heap.size := ⟨_, rfl⟩
                       have H6 : Hid (Rg13 w (w3.alloc (.cells #[.int .i64 x.sess, .string x.path, .int .i64 x.kind] 63)) s.l p ch k (.slice ta E tc) (.slice ra R rc) ∧ Cb (w3.alloc (.cells #[.int .i64 x.sess, .string x.path, .int .i64 x.kind] 63)) sb (ev x) 63) := by
                         have hb := (Below.refl _ w3).alloc (Nat.le_refl _) (.cells #[.int .i64 x.sess, .string x.path, .int .i64 x.kind] 63)
                         rw [hsb]
                         exact ⟨H4.out.1.later hb, Cb.made w3 _ _⟩
                       go_wp2_with (at_builtin; rw [← hsb]; refine wpList_evq13 rfl _ _ rfl w.heap.size (.slice ra R rc) (rs13 s.l p ch k) x sb (w3.alloc (.cells #[.int .i64 x.sess, .string x.path, .int .i64 x.kind] 63)) rfl rfl H6.out.1.rest H6.out.1.below.size H6.out.2 (by have := rs13_le s.l p ch k; omega) ?_)
                       clear hsb d0 d1 d2
                       have HW5 : Hid ((w3.alloc (.cells #[.int .i64 x.sess, .string x.path, .int .i64 x.kind] 63)).heap.size = w3.heap.size + 1) := World.size_alloc _ _
                       generalize (w3.alloc (.cells #[.int .i64 x.sess, .string x.path, .int .i64 x.kind] 63)) = w5 at *
                       intro v6 w6 hr6 hg6 hv6
                       rw [← HW5.out] at hv6
                       have H7 : Hid (Rg13 w w6 s.l p ch (k + 1) (.slice ta E tc) v6) := H6.out.1.stay HX.out HY.out hg6 hv6 (by simpa using hr6)
                       obtain ⟨a6, c6, e6, j1, j2⟩ := row_form H7.out.rest
                       subst e6
                       clear hr6 hg6 hv6 j1 j2
                       go_wp2
                       go_roundw
                       case rel => exact ⟨k + 1, by omega, by go_num, H7.out⟩
                       case measure => simp [intOf]; omega
            | true =>
              by_cases hc3b : ch < 3
              · have HY : Hid (Hq.hears p ch x = false) := HPR.out
                obtain ⟨sb, hsb⟩ : ∃ z, z = w3.heap.size := ⟨_, rfl⟩
                have H6 : Hid (Rg13 w (w3.alloc (.cells #[.int .i64 x.sess, .string x.path, .int .i64 x.kind] 63)) s.l p ch k (.slice ta E tc) (.slice ra R rc) ∧ Cb (w3.alloc (.cells #[.int .i64 x.sess, .string x.path, .int .i64 x.kind] 63)) sb (ev x) 63) := by
                  have hb := (Below.refl _ w3).alloc (Nat.le_refl _) (.cells #[.int .i64 x.sess, .string x.path, .int .i64 x.kind] 63)
                  rw [hsb]
                  exact ⟨H4.out.1.later hb, Cb.made w3 _ _⟩
                go_wp2_with (at_builtin; rw [← hsb]; refine wpList_evq13 rfl _ _ rfl w.heap.size (.slice ra R rc) (rs13 s.l p ch k) x sb (w3.alloc (.cells #[.int .i64 x.sess, .string x.path, .int .i64 x.kind] 63)) rfl rfl H6.out.1.rest H6.out.1.below.size H6.out.2 (by have := rs13_le s.l p ch k; omega) ?_)
                clear hsb d0 d1 d2
                have HW5 : Hid ((w3.alloc (.cells #[.int .i64 x.sess, .string x.path, .int .i64 x.kind] 63)).heap.size = w3.heap.size + 1) := World.size_alloc _ _
                generalize (w3.alloc (.cells #[.int .i64 x.sess, .string x.path, .int .i64 x.kind] 63)) = w5 at *
                intro v6 w6 hr6 hg6 hv6
                rw [← HW5.out] at hv6
                have H7 : Hid (Rg13 w w6 s.l p ch (k + 1) (.slice ta E tc) v6) := H6.out.1.stay HX.out HY.out hg6 hv6 (by simpa using hr6)
                obtain ⟨a6, c6, e6, j1, j2⟩ := row_form H7.out.rest
                subst e6
                clear hr6 hg6 hv6 j1 j2
                go_wp2
                go_roundw
                case rel => exact ⟨k + 1, by omega, by go_num, H7.out⟩
                case measure => simp [intOf]; omega
              · have HY : Hid (Hq.hears p ch x = false) := HPR.out
                obtain ⟨sb, hsb⟩ : ∃ z, z = w3.heap.size := ⟨_, rfl⟩
                have H6 : Hid (Rg13 w (w3.alloc (.cells #[.int .i64 x.sess, .string x.path, .int .i64 x.kind] 63)) s.l p ch k (.slice ta E tc) (.slice ra R rc) ∧ Cb (w3.alloc (.cells #[.int .i64 x.sess, .string x.path, .int .i64 x.kind] 63)) sb (ev x) 63) := by
                  have hb := (Below.refl _ w3).alloc (Nat.le_refl _) (.cells #[.int .i64 x.sess, .string x.path, .int .i64 x.kind] 63)
                  rw [hsb]
                  exact ⟨H4.out.1.later hb, Cb.made w3 _ _⟩
                go_wp2_with (at_builtin; rw [← hsb]; refine wpList_evq13 rfl _ _ rfl w.heap.size (.slice ra R rc) (rs13 s.l p ch k) x sb (w3.alloc (.cells #[.int .i64 x.sess, .string x.path, .int .i64 x.kind] 63)) rfl rfl H6.out.1.rest H6.out.1.below.size H6.out.2 (by have := rs13_le s.l p ch k; omega) ?_)
                clear hsb d0 d1 d2
                have HW5 : Hid ((w3.alloc (.cells #[.int .i64 x.sess, .string x.path, .int .i64 x.kind] 63)).heap.size = w3.heap.size + 1) := World.size_alloc _ _
                generalize (w3.alloc (.cells #[.int .i64 x.sess, .string x.path, .int .i64 x.kind] 63)) = w5 at *
                intro v6 w6 hr6 hg6 hv6
                rw [← HW5.out] at hv6
                have H7 : Hid (Rg13 w w6 s.l p ch (k + 1) (.slice ta E tc) v6) := H6.out.1.stay HX.out HY.out hg6 hv6 (by simpa using hr6)
                obtain ⟨a6, c6, e6, j1, j2⟩ := row_form H7.out.rest
                subst e6
                clear hr6 hg6 hv6 j1 j2
                go_wp2
                go_roundw
                case rel => exact ⟨k + 1, by omega, by go_num, H7.out⟩
                case measure => simp [intOf]; omega
      · have hpb : (x.path.toList == p.toList) = false := pathNe13 hp
        rcases hkd with hk1 | hk2
        · have b1 : (x.kind == 1) = true := by simp [hk1]
          have b2 : (x.kind == 2) = false := by simp [hk1]
          have HPR : Hid (Hq.hears p ch x = false) := (show _ = _ by unfold Hq.hears; simp [hk1, hp])
          clear hp hk1
          cases bp with
          | false => have HY : Hid (Hq.hears p ch x = false) := HPR.out
                     obtain ⟨sb, hsb⟩ : ∃ z, z = w3.heap.size := ⟨_, rfl⟩
                     have H6 : Hid (Rg13 w (w3.alloc (.cells #[.int .i64 x.sess, .string x.path, .int .i64 x.kind] 63)) s.l p ch k (.slice ta E tc) (.slice ra R rc) ∧ Cb (w3.alloc (.cells #[.int .i64 x.sess, .string x.path, .int .i64 x.kind] 63)) sb (ev x) 63) := by
                       have hb := (Below.refl _ w3).alloc (Nat.le_refl _) (.cells #[.int .i64 x.sess, .string x.path, .int .i64 x.kind] 63)
                       rw [hsb]
                       exact ⟨H4.out.1.later hb, Cb.made w3 _ _⟩
                     go_wp2_with (at_builtin; rw [← hsb]; refine wpList_evq13 rfl _ _ rfl w.heap.size (.slice ra R rc) (rs13 s.l p ch k) x sb (w3.alloc (.cells #[.int .i64 x.sess, .string x.path, .int .i64 x.kind] 63)) rfl rfl H6.out.1.rest H6.out.1.below.size H6.out.2 (by have := rs13_le s.l p ch k; omega) ?_)
                     clear hsb d0 d1 d2
                     have HW5 : Hid ((w3.alloc (.cells #[.int .i64 x.sess, .string x.path, .int .i64 x.kind] 63)).heap.size = w3.heap.size + 1) := World.size_alloc _ _
                     generalize (w3.alloc (.cells #[.int .i64 x.sess, .string x.path, .int .i64 x.kind] 63)) = w5 at *
                     intro v6 w6 hr6 hg6 hv6
                     rw [← HW5.out] at hv6
                     have H7 : Hid (Rg13 w w6 s.l p ch (k + 1) (.slice ta E tc) v6) := H6.out.1.stay HX.out HY.out hg6 hv6 (by simpa using hr6)
                     obtain ⟨a6, c6, e6, j1, j2⟩ := row_form H7.out.rest
                     subst e6
                     clear hr6 hg6 hv6 j1 j2
                     go_wp2
                     go_roundw
                     case rel => exact ⟨k + 1, by omega, by go_num, H7.out⟩
                     case measure => simp [intOf]; omega
          | true =>
            by_cases hc3b : ch < 3
            · have HY : Hid (Hq.hears p ch x = false) := HPR.out
              obtain ⟨sb, hsb⟩ : ∃ z, z = w3.heap.size := ⟨_, rfl⟩
              have H6 : Hid (Rg13 w (w3.alloc (.cells #[.int .i64 x.sess, .string x.path, .int .i64 x.kind] 63)) s.l p ch k (.slice ta E tc) (.slice ra R rc) ∧ Cb (w3.alloc (.cells #[.int .i64 x.sess, .string x.path, .int .i64 x.kind] 63)) sb (ev x) 63) := by
                have hb := (Below.refl _ w3).alloc (Nat.le_refl _) (.cells #[.int .i64 x.sess, .string x.path, .int .i64 x.kind] 63)
                rw [hsb]
                exact ⟨H4.out.1.later hb, Cb.made w3 _ _⟩
              go_wp2_with (at_builtin; rw [← hsb]; refine wpList_evq13 rfl _ _ rfl w.heap.size (.slice ra R rc) (rs13 s.l p ch k) x sb (w3.alloc (.cells #[.int .i64 x.sess, .string x.path, .int .i64 x.kind] 63)) rfl rfl H6.out.1.rest H6.out.1.below.size H6.out.2 (by have := rs13_le s.l p ch k; omega) ?_)
              clear hsb d0 d1 d2
              have HW5 : Hid ((w3.alloc (.cells #[.int .i64 x.sess, .string x.path, .int .i64 x.kind] 63)).heap.size = w3.heap.size + 1) := World.size_alloc _ _
              generalize (w3.alloc (.cells #[.int .i64 x.sess, .string x.path, .int .i64 x.kind] 63)) = w5 at *
              intro v6 w6 hr6 hg6 hv6
              rw [← HW5.out] at hv6
              have H7 : Hid (Rg13 w w6 s.l p ch (k + 1) (.slice ta E tc) v6) := H6.out.1.stay HX.out HY.out hg6 hv6 (by simpa using hr6)
              obtain ⟨a6, c6, e6, j1, j2⟩ := row_form H7.out.rest
              subst e6
              clear hr6 hg6 hv6 j1 j2
              go_wp2
              go_roundw
              case rel => exact ⟨k + 1, by omega, by go_num, H7.out⟩
              case measure => simp [intOf]; omega
            · have HY : Hid (Hq.hears p ch x = false) := HPR.out
              obtain ⟨sb, hsb⟩ : ∃ z, z = w3.heap.size := ⟨_, rfl⟩
              have H6 : Hid (Rg13 w (w3.alloc (.cells #[.int .i64 x.sess, .string x.path, .int .i64 x.kind] 63)) s.l p ch k (.slice ta E tc) (.slice ra R rc) ∧ Cb (w3.alloc (.cells #[.int .i64 x.sess, .string x.path, .int .i64 x.kind] 63)) sb (ev x) 63) := by
                have hb := (Below.refl _ w3).alloc (Nat.le_refl _) (.cells #[.int .i64 x.sess, .string x.path, .int .i64 x.kind] 63)
                rw [hsb]
                exact ⟨H4.out.1.later hb, Cb.made w3 _ _⟩
              go_wp2_with (at_builtin; rw [← hsb]; refine wpList_evq13 rfl _ _ rfl w.heap.size (.slice ra R rc) (rs13 s.l p ch k) x sb (w3.alloc (.cells #[.int .i64 x.sess, .string x.path, .int .i64 x.kind] 63)) rfl rfl H6.out.1.rest H6.out.1.below.size H6.out.2 (by have := rs13_le s.l p ch k; omega) ?_)
              clear hsb d0 d1 d2
              have HW5 : Hid ((w3.alloc (.cells #[.int .i64 x.sess, .string x.path, .int .i64 x.kind] 63)).heap.size = w3.heap.size + 1) := World.size_alloc _ _
              generalize (w3.alloc (.cells #[.int .i64 x.sess, .string x.path, .int .i64 x.kind] 63)) = w5 at *
              intro v6 w6 hr6 hg6 hv6
              rw [← HW5.out] at hv6
              have H7 : Hid (Rg13 w w6 s.l p ch (k + 1) (.slice ta E tc) v6) := H6.out.1.stay HX.out HY.out hg6 hv6 (by simpa using hr6)
              obtain ⟨a6, c6, e6, j1, j2⟩ := row_form H7.out.rest
              subst e6
              clear hr6 hg6 hv6 j1 j2
              go_wp2
              go_roundw
              case rel => exact ⟨k + 1, by omega, by go_num, H7.out⟩
              case measure => simp [intOf]; omega
        · have b1 : (x.kind == 1) = false := by simp [hk2]
          have b2 : (x.kind == 2) = true := by simp [hk2]
          by_cases hpu : x.path = u
          · have bu : (x.path.toList == u.toList) = true := by rw [hpu]; simp
            cases bp with
            | false =>
              exfalso
              have h1 := HBP.out rfl
              have h2 := (Hq.may_iff.1 HMY.out).2.1
              rw [hpu, h1] at h2
              exact absurd h2 (by decide)
            | true =>
              by_cases hc3b : ch < 3
              · have HPR : Hid (Hq.hears p ch x = true ∧ Hq.told p ch x = ⟨x.sess, 4, u⟩) := ⟨by unfold Hq.hears; rw [if_neg (by omega), if_neg hp, ← HU.out]; simp [hpu]; omega, by unfold Hq.told; rw [if_neg (by omega), if_neg hp, hpu]⟩
                clear hp hk2 hpu
                have HY : Hid (Hq.hears p ch x = true ∧ Hq.told p ch x = ⟨x.sess, 4, u⟩) := HPR.out
                obtain ⟨sb, hsb⟩ : ∃ z, z = w3.heap.size := ⟨_, rfl⟩
                have H6 : Hid (Rg13 w (w3.alloc (.cells #[.int .i64 x.sess, .string u, .int .i64 4] 63)) s.l p ch k (.slice ta E tc) (.slice ra R rc) ∧ Cb (w3.alloc (.cells #[.int .i64 x.sess, .string u, .int .i64 4] 63)) sb (ev (Hq.told p ch x)) 63) := by
                  have hb := (Below.refl _ w3).alloc (Nat.le_refl _) (.cells #[.int .i64 x.sess, .string u, .int .i64 4] 63)
                  rw [hsb, HY.out.2]
                  exact ⟨H4.out.1.later hb, Cb.made w3 _ _⟩
                go_wp2_with (at_builtin; rw [← hsb]; refine wpList_evq13 rfl _ _ rfl w.heap.size (.slice ta E tc) (tl13 s.l p ch k) (Hq.told p ch x) sb (w3.alloc (.cells #[.int .i64 x.sess, .string u, .int .i64 4] 63)) rfl rfl H6.out.1.told H6.out.1.below.size H6.out.2 (by have := tl13_le s.l p ch k; omega) ?_)
                clear hsb d0 d1 d2
                have HW5 : Hid ((w3.alloc (.cells #[.int .i64 x.sess, .string u, .int .i64 4] 63)).heap.size = w3.heap.size + 1) := World.size_alloc _ _
                generalize (w3.alloc (.cells #[.int .i64 x.sess, .string u, .int .i64 4] 63)) = w5 at *
                intro v6 w6 hr6 hg6 hv6
                rw [← HW5.out] at hv6
                have H7 : Hid (Rg13 w w6 s.l p ch (k + 1) v6 (.slice ra R rc)) := H6.out.1.tell HX.out HY.out.1 hg6 hv6 (by simpa using hr6)
                obtain ⟨a6, c6, e6, j1, j2⟩ := row_form H7.out.told
                subst e6
                clear hr6 hg6 hv6 j1 j2
                go_wp2
                go_roundw
                case rel => exact ⟨k + 1, by omega, by go_num, H7.out⟩
                case measure => simp [intOf]; omega
              · have HPR : Hid (Hq.hears p ch x = false) := (show _ = _ by unfold Hq.hears; rw [if_neg (by omega), if_neg hp]; simp; intro _; omega)
                clear hp hk2 hpu
                have HY : Hid (Hq.hears p ch x = false) := HPR.out
                obtain ⟨sb, hsb⟩ : ∃ z, z = w3.heap.size := ⟨_, rfl⟩
                have H6 : Hid (Rg13 w (w3.alloc (.cells #[.int .i64 x.sess, .string x.path, .int .i64 x.kind] 63)) s.l p ch k (.slice ta E tc) (.slice ra R rc) ∧ Cb (w3.alloc (.cells #[.int .i64 x.sess, .string x.path, .int .i64 x.kind] 63)) sb (ev x) 63) := by
                  have hb := (Below.refl _ w3).alloc (Nat.le_refl _) (.cells #[.int .i64 x.sess, .string x.path, .int .i64 x.kind] 63)
                  rw [hsb]
                  exact ⟨H4.out.1.later hb, Cb.made w3 _ _⟩
                go_wp2_with (at_builtin; rw [← hsb]; refine wpList_evq13 rfl _ _ rfl w.heap.size (.slice ra R rc) (rs13 s.l p ch k) x sb (w3.alloc (.cells #[.int .i64 x.sess, .string x.path, .int .i64 x.kind] 63)) rfl rfl H6.out.1.rest H6.out.1.below.size H6.out.2 (by have := rs13_le s.l p ch k; omega) ?_)
                clear hsb d0 d1 d2
                have HW5 : Hid ((w3.alloc (.cells #[.int .i64 x.sess, .string x.path, .int .i64 x.kind] 63)).heap.size = w3.heap.size + 1) := World.size_alloc _ _
                generalize (w3.alloc (.cells #[.int .i64 x.sess, .string x.path, .int .i64 x.kind] 63)) = w5 at *
                intro v6 w6 hr6 hg6 hv6
                rw [← HW5.out] at hv6
                have H7 : Hid (Rg13 w w6 s.l p ch (k + 1) (.slice ta E tc) v6) := H6.out.1.stay HX.out HY.out hg6 hv6 (by simpa using hr6)
                obtain ⟨a6, c6, e6, j1, j2⟩ := row_form H7.out.rest
                subst e6
                clear hr6 hg6 hv6 j1 j2
                go_wp2
                go_roundw
                case rel => exact ⟨k + 1, by omega, by go_num, H7.out⟩
                case measure => simp [intOf]; omega
          · have bu : (x.path.toList == u.toList) = false := pathNe13 hpu
            have HPR : Hid (Hq.hears p ch x = false) := (show _ = _ by unfold Hq.hears; rw [if_neg (by omega), if_neg hp, ← HU.out]; simp [hpu])
            clear hp hk2 hpu
            cases bp with
            | false => have HY : Hid (Hq.hears p ch x = false) := HPR.out
                       obtain ⟨sb, hsb⟩ : ∃ z, z = w3.heap.size := ⟨_, rfl⟩
                       have H6 : Hid (Rg13 w (w3.alloc (.cells #[.int .i64 x.sess, .string x.path, .int .i64 x.kind] 63)) s.l p ch k (.slice ta E tc) (.slice ra R rc) ∧ Cb (w3.alloc (.cells #[.int .i64 x.sess, .string x.path, .int .i64 x.kind] 63)) sb (ev x) 63) := by
                         have hb := (Below.refl _ w3).alloc (Nat.le_refl _) (.cells #[.int .i64 x.sess, .string x.path, .int .i64 x.kind] 63)
                         rw [hsb]
                         exact ⟨H4.out.1.later hb, Cb.made w3 _ _⟩
                       go_wp2_with (at_builtin; rw [← hsb]; refine wpList_evq13 rfl _ _ rfl w.heap.size (.slice ra R rc) (rs13 s.l p ch k) x sb (w3.alloc (.cells #[.int .i64 x.sess, .string x.path, .int .i64 x.kind] 63)) rfl rfl H6.out.1.rest H6.out.1.below.size H6.out.2 (by have := rs13_le s.l p ch k; omega) ?_)
                       clear hsb d0 d1 d2
                       have HW5 : Hid ((w3.alloc (.cells #[.int .i64 x.sess, .string x.path, .int .i64 x.kind] 63)).heap.size = w3.heap.size + 1) := World.size_alloc _ _
                       generalize (w3.alloc (.cells #[.int .i64 x.sess, .string x.path, .int .i64 x.kind] 63)) = w5 at *
                       intro v6 w6 hr6 hg6 hv6
                       rw [← HW5.out] at hv6
                       have H7 : Hid (Rg13 w w6 s.l p ch (k + 1) (.slice ta E tc) v6) := H6.out.1.stay HX.out HY.out hg6 hv6 (by simpa using hr6)
                       obtain ⟨a6, c6, e6, j1, j2⟩ := row_form H7.out.rest
                       subst e6
                       clear hr6 hg6 hv6 j1 j2
                       go_wp2
                       go_roundw
                       case rel => exact ⟨k + 1, by omega, by go_num, H7.out⟩
                       case measure => simp [intOf]; omega
            | true =>
              by_cases hc3b : ch < 3
              · have HY : Hid (Hq.hears p ch x = false) := HPR.out
                obtain ⟨sb, hsb⟩ : ∃ z, z = w3.heap.size := ⟨_, rfl⟩
                have H6 : Hid (Rg13 w (w3.alloc (.cells #[.int .i64 x.sess, .string x.path, .int .i64 x.kind] 63)) s.l p ch k (.slice ta E tc) (.slice ra R rc) ∧ Cb (w3.alloc (.cells #[.int .i64 x.sess, .string x.path, .int .i64 x.kind] 63)) sb (ev x) 63) := by
                  have hb := (Below.refl _ w3).alloc (Nat.le_refl _) (.cells #[.int .i64 x.sess, .string x.path, .int .i64 x.kind] 63)
                  rw [hsb]
                  exact ⟨H4.out.1.later hb, Cb.made w3 _ _⟩
                go_wp2_with (at_builtin; rw [← hsb]; refine wpList_evq13 rfl _ _ rfl w.heap.size (.slice ra R rc) (rs13 s.l p ch k) x sb (w3.alloc (.cells #[.int .i64 x.sess, .string x.path, .int .i64 x.kind] 63)) rfl rfl H6.out.1.rest H6.out.1.below.size H6.out.2 (by have := rs13_le s.l p ch k; omega) ?_)
                clear hsb d0 d1 d2
                have HW5 : Hid ((w3.alloc (.cells #[.int .i64 x.sess, .string x.path, .int .i64 x.kind] 63)).heap.size = w3.heap.size + 1) := World.size_alloc _ _
                generalize (w3.alloc (.cells #[.int .i64 x.sess, .string x.path, .int .i64 x.kind] 63)) = w5 at *
                intro v6 w6 hr6 hg6 hv6
                rw [← HW5.out] at hv6
                have H7 : Hid (Rg13 w w6 s.l p ch (k + 1) (.slice ta E tc) v6) := H6.out.1.stay HX.out HY.out hg6 hv6 (by simpa using hr6)
                obtain ⟨a6, c6, e6, j1, j2⟩ := row_form H7.out.rest
                subst e6
                clear hr6 hg6 hv6 j1 j2
                go_wp2
                go_roundw
                case rel => exact ⟨k + 1, by omega, by go_num, H7.out⟩
                case measure => simp [intOf]; omega
              · have HY : Hid (Hq.hears p ch x = false) := HPR.out
                obtain ⟨sb, hsb⟩ : ∃ z, z = w3.heap.size := ⟨_, rfl⟩
                have H6 : Hid (Rg13 w (w3.alloc (.cells #[.int .i64 x.sess, .string x.path, .int .i64 x.kind] 63)) s.l p ch k (.slice ta E tc) (.slice ra R rc) ∧ Cb (w3.alloc (.cells #[.int .i64 x.sess, .string x.path, .int .i64 x.kind] 63)) sb (ev x) 63) := by
                  have hb := (Below.refl _ w3).alloc (Nat.le_refl _) (.cells #[.int .i64 x.sess, .string x.path, .int .i64 x.kind] 63)
                  rw [hsb]
                  exact ⟨H4.out.1.later hb, Cb.made w3 _ _⟩
                go_wp2_with (at_builtin; rw [← hsb]; refine wpList_evq13 rfl _ _ rfl w.heap.size (.slice ra R rc) (rs13 s.l p ch k) x sb (w3.alloc (.cells #[.int .i64 x.sess, .string x.path, .int .i64 x.kind] 63)) rfl rfl H6.out.1.rest H6.out.1.below.size H6.out.2 (by have := rs13_le s.l p ch k; omega) ?_)
                clear hsb d0 d1 d2
                have HW5 : Hid ((w3.alloc (.cells #[.int .i64 x.sess, .string x.path, .int .i64 x.kind] 63)).heap.size = w3.heap.size + 1) := World.size_alloc _ _
                generalize (w3.alloc (.cells #[.int .i64 x.sess, .string x.path, .int .i64 x.kind] 63)) = w5 at *
                intro v6 w6 hr6 hg6 hv6
                rw [← HW5.out] at hv6
                have H7 : Hid (Rg13 w w6 s.l p ch (k + 1) (.slice ta E tc) v6) := H6.out.1.stay HX.out HY.out hg6 hv6 (by simpa using hr6)
                obtain ⟨a6, c6, e6, j1, j2⟩ := row_form H7.out.rest
                subst e6
                clear hr6 hg6 hv6 j1 j2
                go_wp2
                go_roundw
                case rel => exact ⟨k + 1, by omega, by go_num, H7.out⟩
                case measure => simp [intOf]; omega
    · have hlt' : ¬ (k : Int) < (N : Int) := by omega
      obtain rfl : k = N := by omega
      have HT : Hid (s.l.take k = s.l) := List.take_of_length_le (by rw [← H0.out.2.1]; exact Nat.le_refl _)
      have f1 : wr.frozen? ⟨q, 1, none⟩ = false := (H0.out.1.later H3.out.below).blk.free 1
      have HE : Hid (∃ F', Ev (wr.setCell ⟨q, 1, none⟩ (.slice ra R rc)) (.slice ta E tc) (Hq.events s p ch) ∧ (∀ k, (Value.slice ta E tc).ownBlock = some k → w.heap.size ≤ k ∧ ¬ F' k) ∧ LRf (wr.setCell ⟨q, 1, none⟩ (.slice ra R rc)) q (Hq.fired s p ch) F' ∧ Moved w (wr.setCell ⟨q, 1, none⟩ (.slice ra R rc)) (Fw13 (.slice a k c) q) F') := by
        have hcan := H0.out.2.2.2.1
        have e1 : tl13 s.l p ch k = Hq.events s p ch := by unfold tl13 Hq.events; rw [hcan, HT.out]; rfl
        have e2 : ({ s with l := rs13 s.l p ch k } : Hq.St) = Hq.fired s p ch := by unfold rs13 Hq.fired; rw [hcan, HT.out]; rfl
        have hp := H0.out.1.put H3.out.below H3.out.rest
        rw [e2] at hp
        have ht := H3.out.told
        have hqw := H0.out.1.blk.lt
        have hs := grownBy_setCell wr ⟨q, 1, none⟩ (.slice ra R rc)
        refine ⟨_, ?_, fun j hj => ⟨(ht.lt j hj).1, fun e => ?_⟩, hp.1, hp.2⟩
        · rw [← e1]
          refine (ev_of_rrow ht).keep fun j hj _ => hs.block j (ht.lt j hj).2 ?_
          have := (ht.lt j hj).1
          simp
          omega
        · have h1 := (ht.lt j hj).1
          rcases e with e | e
          · rcases H3.out.apart with h2 | h2
            · rw [h2] at hj
              cases hj
            · exact h2 (by rw [hj, e])
          · omega
      go_wp2
      go_ret
      obtain ⟨F', z1, z2, z3, z4⟩ := HE.out
      exact ⟨F', _, rfl, z1, z2, z3, z4⟩
end Go.Proofs.YtjejpkognjedpaaDoor
