/- What Fire does where none is armed, and where it is asked in vain; Fire whole. -/
import Derived.Test.YtjejpkognjedpaaDoorWFire13
namespace Go.Proofs.YtjejpkognjedpaaDoor
open Go.RowKit

theorem Ev.nil13 (w : World) : Ev w (.slice none 0 0) [] := ⟨_, _, _, rfl, rfl, Nat.le_refl _, fun _ => rfl, fun j x hx => by simp at hx⟩
set_option maxRecDepth 20000 in
set_option maxHeartbeats 4000000 in
theorem fire_no13 (q : Nat) (s : Hq.St) (F : Nat → Prop) (p : ByteArray) (ch : Int) (w : World) (hL : LWt w q s F) (hS : Pa.Std w) (hp : p.size ≤ maxLen) (hc : Hq.can p ch = false) :
    Calls Tryd.prog 11 #[dptr q, .string p, .int .i64 ch] w fun e w' => ∃ F' v, e = .returned v ∧ Ev w' v (Hq.events s p ch) ∧ (∀ k, v.ownBlock = some k → w.heap.size ≤ k ∧ ¬ F' k) ∧ LWt w' q (Hq.fired s p ch) F' ∧ Moved w w' F F' := by
  have HE : Hid (∀ w', Below w.heap.size w w' → ∃ F' v, Ending.returned (.slice none 0 0) = .returned v ∧ Ev w' v (Hq.events s p ch) ∧ (∀ k, v.ownBlock = some k → w.heap.size ≤ k ∧ ¬ F' k) ∧ LWt w' q (Hq.fired s p ch) F' ∧ Moved w w' F F') := fun w' hb => by
    have e1 : Hq.events s p ch = [] := by unfold Hq.events; rw [hc]; rfl
    have e2 : Hq.fired s p ch = s := by unfold Hq.fired; rw [hc]; rfl
    rw [e1, e2]
    exact ⟨F, _, rfl, Ev.nil13 _, fun k hk => (by cases hk), LWt.keep hL fun k hk => hb.block k (LWt.lt hL hk), Moved.of_below F hb⟩
  have H0 : Hid (Pa.Std w ∧ p.size ≤ maxLen ∧ Hq.can p ch = false) := ⟨hS, hp, hc⟩
  clear hL hS hp hc
  unfold dptr
  go_enter Tryd.func11, Tryd.ntmps11
  by_cases h1 : ch < 1
  · go_wp2
    go_ret
    exact HE.out _ (Below.refl _ _)
  by_cases h3 : 3 < ch
  · go_wp2
    go_ret
    exact HE.out _ (Below.refl _ _)
  have HG : Hid (Calls Tryd.prog 18 #[.string p] w fun e w' => e = .returned (.bool false) ∧ Below w.heap.size w w') := by
    have h := Pa.good_any p w H0.out.1 H0.out.2.1
    have e : Pl.goodB p.data.toList = false := by
      cases e : Pl.goodB p.data.toList with
      | false => rfl
      | true => have := H0.out.2.2; rw [Hq.can_iff.2 ⟨by omega, by omega, e⟩] at this; cases this
    rw [e] at h
    exact h
  go_wp2_with fail
  refine HG.out.mono ?_
  rintro e w1 ⟨rfl, hb1⟩
  have H1 : Hid (Below w.heap.size w w1) := hb1
  clear hb1 HG
  go_wp2
  go_ret
  exact HE.out _ H1.out
set_option maxRecDepth 20000 in
set_option maxHeartbeats 4000000 in
theorem fire_nil13 (q : Nat) (s : Hq.St) (p : ByteArray) (ch : Int) (w : World) (hl : Lw13 w q s (.slice none 0 0)) (hN : s.l = []) (hS : Pa.Std w) (h1 : 1 ≤ ch) (h3 : ch ≤ 3) (hg : Pl.goodB p.data.toList = true) :
    Calls Tryd.prog 11 #[dptr q, .string p, .int .i64 ch] w fun e w' => ∃ F' v, e = .returned v ∧ Ev w' v (Hq.events s p ch) ∧ (∀ k, v.ownBlock = some k → w.heap.size ≤ k ∧ ¬ F' k) ∧ LWt w' q (Hq.fired s p ch) F' ∧ Moved w w' (Fw13 (.slice none 0 0) q) F' := by
  have hsz : p.size ≤ maxLen := by
    have e1 := (Pl.good_parts hg).2.2
    have e2 : p.size = p.data.toList.length := Lib.size_eq p
    unfold maxLen
    omega
  have HG : Hid (Calls Tryd.prog 18 #[.string p] w fun e w' => e = .returned (.bool true) ∧ Below w.heap.size w w') := by
    rw [← hg]
    exact Pa.good_any p w hS hsz
  have HPA : Hid (∀ w', Below w.heap.size w w' → Calls Tryd.prog 23 #[.string p] w' fun e w'' => ∃ b, e = .returned (.tuple #[.string (Hq.up p), .bool b]) ∧ Below w'.heap.size w' w'') := fun w' hb => parent_any13 p w' (hS.below hb) hg
  have HB : Hid (∀ w', Below w.heap.size w w' → Cb w' q [.int .i64 s.room, .slice none 0 0] 49) := fun w' hb => hl.blk.below hb
  have HE : Hid (∀ w', Below w.heap.size w w' → ∃ F' v, Ending.returned (.slice none 0 0) = .returned v ∧ Ev (w'.setCell ⟨q, 1, none⟩ (.slice none 0 0)) v (Hq.events s p ch) ∧ (∀ k, v.ownBlock = some k → w.heap.size ≤ k ∧ ¬ F' k) ∧ LWt (w'.setCell ⟨q, 1, none⟩ (.slice none 0 0)) q (Hq.fired s p ch) F' ∧ Moved w (w'.setCell ⟨q, 1, none⟩ (.slice none 0 0)) (Fw13 (.slice none 0 0) q) F') := fun w' hb => by
    have hs := grownBy_setCell w' ⟨q, 1, none⟩ (.slice none 0 0)
    have e1 : Hq.events s p ch = [] := by unfold Hq.events; rw [hN]; split <;> rfl
    have e2 : Hq.fired s p ch = s := by
      unfold Hq.fired
      split
      · cases s
        simp_all
      · rfl
    have hqb := (hl.blk.below hb).set 1 (.slice none 0 0)
    rw [e1, e2]
    refine ⟨Fw13 (.slice none 0 0) q, _, rfl, Ev.nil13 _, fun k hk => (by cases hk), ⟨_, ⟨hqb, by rw [hN]; exact World.ownsRow_nil _ _ _ _⟩, rfl⟩, hs.os.trans hb.os, hs.tape.trans hb.tape, hs.output.trans hb.output, Nat.le_trans hb.size hs.size, fun k hk hF => ?_, fun k hk => Or.inl hk⟩
    have hk1 : k ≠ q := fun e => hF (Or.inr e)
    have e3 := hb.size
    rw [hs.block k (by omega) (fun e => hk1 (by simpa using e)), hb.block k hk]
  have hc1 : ¬ ch < 1 := by omega
  have hc3 : ¬ 3 < ch := by omega
  clear hl hN hS h1 h3 hg hsz
  unfold dptr
  go_enter Tryd.func11, Tryd.ntmps11
  go_wp2_with fail
  refine HG.out.mono ?_
  rintro e w1 ⟨rfl, hb1⟩
  have H1 : Hid (Below w.heap.size w w1) := hb1
  clear hb1 HG
  go_wp2_with fail
  refine (HPA.out _ H1.out).mono ?_
  rintro e w2 ⟨bp, rfl, hb2⟩
  have H2 : Hid (Below w.heap.size w w2) := H1.out.trans (hb2.mono H1.out.size)
  clear hb2 HPA H1
  have c1 : w2.cell? ⟨q, 1, none⟩ = some (.slice none 0 0) := (HB.out _ H2.out).cell 1
  have f1 : w2.frozen? ⟨q, 1, none⟩ = false := (HB.out _ H2.out).free 1
  have hcl : ∀ ty a c, (Builtin.clear_ #[47] ty #[.slice a 0 c]).run Tryd.prog w2 = .ok (.tuple #[]) w2 := fun ty a c => run_clear_none w2 47 54 ty Tryd.underlying47 a c
  go_wp2
  go_loopw [9, 10, 41] (fun t lf i wx => t = .slice none 0 0 ∧ lf = .slice none 0 0 ∧ i = .int .i64 0 ∧ wx = w2) (fun _ _ _ _ => 0)
  case atStart => exact ⟨rfl, rfl, rfl, rfl⟩
  case round =>
    obtain ⟨rfl, rfl, rfl, rfl⟩ := hrel
    go_wp2_with (at_builtin; refine wpList_clear_known wr rfl _ 47 rfl (.slice none 0 0) rfl (hcl _ _ _) ?_)
    go_wp2
    go_ret
    exact HE.out _ H2.out
theorem fire_any13 (q : Nat) (s : Hq.St) (F : Nat → Prop) (p : ByteArray) (ch : Int) (w : World) (hL : LWt w q s F) (hf : Hq.Fine s) (hS : Pa.Std w) (hp : p.size ≤ maxLen) :
    Calls Tryd.prog 11 #[dptr q, .string p, .int .i64 ch] w fun e w' => ∃ F' v, e = .returned v ∧ Ev w' v (Hq.events s p ch) ∧ (∀ k, v.ownBlock = some k → w.heap.size ≤ k ∧ ¬ F' k) ∧ LWt w' q (Hq.fired s p ch) F' ∧ Moved w w' F F' := by
  cases hc : Hq.can p ch with
  | false => exact fire_no13 q s F p ch w hL hS hp hc
  | true =>
    obtain ⟨h1, h3, hg⟩ := Hq.can_iff.1 hc
    obtain ⟨v, hl, rfl⟩ := hL
    have hr := hl.row
    obtain ⟨N, hN⟩ : ∃ N, N = s.l.length := ⟨_, rfl⟩
    rw [← hN] at hr
    rcases hr.2 with ⟨rfl, h0⟩ | ⟨g, c, cur, rfl, _⟩
    · exact fire_nil13 q s p ch w hl (List.length_eq_zero_iff.1 (by rw [← hN]; exact h0)) hS h1 h3 hg
    · exact fire_some13 q g N c s p ch w hl hf hN hS h1 h3 hg
end Go.Proofs.YtjejpkognjedpaaDoor
