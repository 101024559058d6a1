/- The reference's Fire and Arm whole; what the statements' own evs answers. -/
import Derived.Test.YtjejpkognjedpaaDoorRefA13
namespace Go.Proofs.YtjejpkognjedpaaDoor
open Go.RowKit

set_option maxRecDepth 20000 in
set_option maxHeartbeats 4000000 in
theorem refArm_no13 (q : Nat) (s : Hq.St) (F : Nat → Prop) (x : Hq.Wt) (w : World) (hL : LRf w q s F) (hp : x.path.size ≤ maxLen) (hm : Hq.may x = false) :
    Calls Tryd.prog 14 #[dptr q, .int .i64 x.sess, .string x.path, .int .i64 x.kind] w fun e w' => ∃ F', e = .returned (.int .i64 (Hq.arm s x).1) ∧ LRf w' q (Hq.arm s x).2 F' ∧ Moved w w' F F' := by
  have e1 : Hq.arm s x = (1, s) := by unfold Hq.arm; rw [hm]; rfl
  rw [e1]
  have HE : Hid (∀ w', Below w.heap.size w w' → LRf w' q s F ∧ Moved w w' F F) := fun w' hb => ⟨LRf.keep hL fun k hk => hb.block k (LRf.lt hL hk), Moved.of_below F hb⟩
  obtain ⟨gd, hgd⟩ : ∃ z, z = Pl.goodB x.path.data.toList := ⟨_, rfl⟩
  have HG : Hid (Calls Tryd.prog 27 #[.string x.path] w fun e w' => e = .returned (.bool gd) ∧ Below w.heap.size w w') := by
    rw [hgd]
    exact Pa.refGood_any x.path w hp
  have HM : Hid (Hq.may x = false ∧ gd = Pl.goodB x.path.data.toList) := ⟨hm, hgd⟩
  clear hL hp hm e1 hgd
  unfold dptr
  go_enter Tryd.func14, Tryd.ntmps14
  by_cases h1 : x.sess < 1
  · go_wp2
    go_ret
    first | exact ⟨F, rfl, (HE.out _ (Below.refl _ _)).1, (HE.out _ (Below.refl _ _)).2⟩ | exact ⟨rfl, F, (HE.out _ (Below.refl _ _)).1, (HE.out _ (Below.refl _ _)).2⟩
  go_wp2_with fail
  refine HG.out.mono ?_
  rintro e w1 ⟨rfl, hb1⟩
  have H1 : Hid (Below w.heap.size w w1) := hb1
  clear hb1 HG
  cases gd with
  | false =>
    go_wp2
    go_ret
    first | exact ⟨F, rfl, (HE.out _ H1.out).1, (HE.out _ H1.out).2⟩ | exact ⟨rfl, F, (HE.out _ H1.out).1, (HE.out _ H1.out).2⟩
  | true =>
    have hk : ¬ (x.kind = 1 ∨ x.kind = 2) := fun e => by
      have h := Hq.may_iff.2 ⟨by omega, HM.out.2.symm, e⟩
      rw [HM.out.1] at h
      cases h
    have hk1 : (x.kind != 1) = true := by simp; omega
    have hk2 : (x.kind != 2) = true := by simp; omega
    clear hk
    go_wp2
    go_ret
    first | exact ⟨F, rfl, (HE.out _ H1.out).1, (HE.out _ H1.out).2⟩ | exact ⟨rfl, F, (HE.out _ H1.out).1, (HE.out _ H1.out).2⟩
theorem refArm_any13 (q : Nat) (s : Hq.St) (F : Nat → Prop) (x : Hq.Wt) (w : World) (hL : LRf w q s F) (hf : Hq.Fine s) (hp : x.path.size ≤ maxLen) :
    Calls Tryd.prog 14 #[dptr q, .int .i64 x.sess, .string x.path, .int .i64 x.kind] w fun e w' => ∃ F', e = .returned (.int .i64 (Hq.arm s x).1) ∧ LRf w' q (Hq.arm s x).2 F' ∧ Moved w w' F F' := by
  cases hm : Hq.may x with
  | false => exact refArm_no13 q s F x w hL hp hm
  | true =>
    obtain ⟨v, hl, rfl⟩ := hL
    obtain ⟨N, hN⟩ : ∃ N, N = s.l.length := ⟨_, rfl⟩
    have hr := hl.row
    rw [← hN] at hr
    rcases hr.2 with ⟨rfl, h0⟩ | ⟨g, c, cur, rfl, _, _, hNc, _⟩
    · subst h0
      exact refArm_none13 q 0 0 s x w hl hf hN ⟨Nat.le_refl _, rfl, rfl⟩ hm
    · exact refArm_some13 q g N c s x w hl hf hN hNc hm
set_option maxRecDepth 20000 in
set_option maxHeartbeats 4000000 in
theorem refFire_no13 (q : Nat) (s : Hq.St) (F : Nat → Prop) (p : ByteArray) (ch : Int) (w : World) (hL : LRf w q s F) (hp : p.size ≤ maxLen) (hc : Hq.can p ch = false) :
    Calls Tryd.prog 16 #[dptr q, .string p, .int .i64 ch] w fun e w' => ∃ F' v, e = .returned v ∧ Ev w' v (Hq.events s p ch) ∧ (∀ k, v.ownBlock = some k → w.heap.size ≤ k ∧ ¬ F' k) ∧ LRf w' q (Hq.fired s p ch) F' ∧ Moved w w' F F' := by
  have HE : Hid (∀ w', Below w.heap.size w w' → ∃ F' v, Ending.returned (.slice none 0 0) = .returned v ∧ Ev w' v (Hq.events s p ch) ∧ (∀ k, v.ownBlock = some k → w.heap.size ≤ k ∧ ¬ F' k) ∧ LRf w' q (Hq.fired s p ch) F' ∧ Moved w w' F F') := fun w' hb => by
    have e1 : Hq.events s p ch = [] := by unfold Hq.events; rw [hc]; rfl
    have e2 : Hq.fired s p ch = s := by unfold Hq.fired; rw [hc]; rfl
    rw [e1, e2]
    exact ⟨F, _, rfl, Ev.nil13 _, fun k hk => (by cases hk), LRf.keep hL fun k hk => hb.block k (LRf.lt hL hk), Moved.of_below F hb⟩
  obtain ⟨gd, hgd⟩ : ∃ z, z = Pl.goodB p.data.toList := ⟨_, rfl⟩
  have HG : Hid (Calls Tryd.prog 27 #[.string p] w fun e w' => e = .returned (.bool gd) ∧ Below w.heap.size w w') := by
    rw [hgd]
    exact Pa.refGood_any p w hp
  have HM : Hid (Hq.can p ch = false ∧ gd = Pl.goodB p.data.toList) := ⟨hc, hgd⟩
  clear hL hp hc hgd
  unfold dptr
  go_enter Tryd.func16, Tryd.ntmps16
  go_wp2_with fail
  refine HG.out.mono ?_
  rintro e w1 ⟨rfl, hb1⟩
  have H1 : Hid (Below w.heap.size w w1) := hb1
  clear hb1 HG
  cases gd with
  | false =>
    go_wp2
    go_ret
    exact HE.out _ H1.out
  | true =>
    by_cases h1 : ch < 1
    · go_wp2
      go_ret
      exact HE.out _ H1.out
    · have h3 : 3 < ch := by
        rcases Int.lt_or_le 3 ch with h | h
        · exact h
        · have e := Hq.can_iff.2 ⟨by omega, h, HM.out.2.symm⟩
          rw [HM.out.1] at e
          cases e
      go_wp2
      go_ret
      exact HE.out _ H1.out
theorem refFire_any13 (q : Nat) (s : Hq.St) (F : Nat → Prop) (p : ByteArray) (ch : Int) (w : World) (hL : LRf w q s F) (hf : Hq.Fine s) (hp : p.size ≤ maxLen) :
    Calls Tryd.prog 16 #[dptr q, .string p, .int .i64 ch] w fun e w' => ∃ F' v, e = .returned v ∧ Ev w' v (Hq.events s p ch) ∧ (∀ k, v.ownBlock = some k → w.heap.size ≤ k ∧ ¬ F' k) ∧ LRf w' q (Hq.fired s p ch) F' ∧ Moved w w' F F' := by
  cases hc : Hq.can p ch with
  | false => exact refFire_no13 q s F p ch w hL hp hc
  | true =>
    obtain ⟨h1, h3, hg⟩ := Hq.can_iff.1 hc
    obtain ⟨v, hl, rfl⟩ := hL
    exact refFire_yes13 q s v p ch w hl hf h1 h3 hg

set_option maxRecDepth 20000 in
set_option maxHeartbeats 4000000 in
theorem evs_any13 (v u : Value) (es : List Hq.Wt) (w : World) (hv : Ev w v es) (hu : Ev w u es) (hN : es.length ≤ 1000) :
    Calls Tryd.prog 15 #[v, u] w fun e w' => e = .returned (.bool true) ∧ Below w.heap.size w w' := by
  have HV : Hid (Ev w v es ∧ Ev w u es) := ⟨hv, hu⟩
  obtain ⟨va, n, vc, rfl, hn, j1, j2, j3⟩ := hv
  obtain ⟨ua, m, uc, rfl, hm, j4, j5, j6⟩ := hu
  have hmn : m = n := by rw [hn, hm]
  subst hmn
  have HN : Hid (m = es.length) := hn
  have hm1 : m ≤ 1000 := by omega
  clear hn hm j1 j2 j3 j4 j5 j6 hN
  have hne : ((m : Int) != (m : Int)) = false := by simp
  go_enter Tryd.func15, Tryd.ntmps15
  go_wp2
  go_loopw [5] (fun i wx => ∃ k : Nat, k ≤ m ∧ i = .int .i64 (k : Int) ∧ Below w.heap.size w wx) (fun i _ => m - (intOf i).toNat)
  case atStart => exact ⟨0, Nat.zero_le _, rfl, Below.refl _ _⟩
  case round =>
    obtain ⟨k, hk, rfl, hb⟩ := hrel
    have HW : Hid (Below w.heap.size w wr ∧ Ev wr (.slice va m vc) es ∧ Ev wr (.slice ua m uc) es) := ⟨hb, HV.out.1.below hb, HV.out.2.below hb⟩
    clear hb
    by_cases hlt : k < m
    · have hlt' : (k : Int) < (m : Int) := by omega
      have hk0 : (0 : Int) ≤ (k : Int) := by omega
      have hwk : IntKind.wrap .i64 ((k : Int) + 1) = (k : Int) + 1 := by rw [IntKind.wrap_i64]; omega
      obtain ⟨y, hy⟩ : ∃ y, es[k]? = some y := ⟨es[k]'(by rw [← HN.out]; exact hlt), List.getElem?_eq_getElem _⟩
      obtain ⟨g1, b1, c1, e1, _, h1⟩ := HW.out.2.1.at (by rw [← HN.out]; omega)
      obtain ⟨g2, b2, c2, e2, _, h2⟩ := HW.out.2.2.at (by rw [← HN.out]; omega)
      simp only [Value.slice.injEq] at e1 e2
      obtain ⟨rfl, _, rfl⟩ := e1
      obtain ⟨rfl, _, rfl⟩ := e2
      obtain ⟨p0, p1, p2⟩ := h1 k y hy
      obtain ⟨q0, q1, q2⟩ := h2 k y hy
      have bs : (y.sess != y.sess) = false := by simp
      have bk : (y.kind != y.kind) = false := by simp
      clear h1 h2 hy
      go_upto_region 6 with fail
      go_quiet (fail)
      have HB : Hid (Below w.heap.size w (wr.drewN nq)) := below_drewN HW.out.1 _
      clear p0 p1 p2 q0 q1 q2 bs bk
      go_wp2
      go_roundw
      case rel => exact ⟨k + 1, by omega, by go_num, HB.out⟩
      case measure => simp [intOf]; omega
    · have hlt' : ¬ (k : Int) < (m : Int) := by omega
      go_wp2
      go_ret
      exact ⟨rfl, HW.out.1⟩
end Go.Proofs.YtjejpkognjedpaaDoor
