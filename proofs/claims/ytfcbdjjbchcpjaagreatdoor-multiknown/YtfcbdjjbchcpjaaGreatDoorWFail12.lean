/- What reply.Fail answers. -/
import Derived.Test.YtfcbdjjbchcpjaaGreatDoorBox12
import Derived.Test.YtfcbdjjbchcpjaaGreatDoorBas
import Derived.Deep.DeepCutAuto
import Derived.Laws.ResultCell
namespace Go.Proofs.YtfcbdjjbchcpjaaGreatDoor
open Go.RowKit

set_option maxRecDepth 20000 in
set_option maxHeartbeats 4000000 in
theorem fail_any12 (num e at_ n : Int) (w : World) (hn : -9223372036854775808 ≤ n) (hn2 : n ≤ 9223372036854775807) :
    Calls Tryz.prog 79 #[.int .i64 num, .int .i64 e, .int .i64 at_, .int .i64 n] w fun ed w' => ∃ u, ed = .returned (rpv (Rq.fail num e at_ n) u) ∧ (Rl w' u (Rq.fail num e at_ n).xs ∧ ∀ k, u.ownBlock = some k → w.heap.size ≤ k) ∧ Below w.heap.size w w' := by
  obtain ⟨q0, hq0⟩ : ∃ q, q = w.heap.size := ⟨_, rfl⟩
  obtain ⟨q1, hq1⟩ : ∃ q, q = w.heap.size + 1 := ⟨_, rfl⟩
  obtain ⟨wA, hwA⟩ : ∃ W, W = w.alloc (.cells #[.int .i64 0, .int .i64 0, .int .i64 0, .int .i64 0, .slice none 0 0] 73) := ⟨_, rfl⟩
  obtain ⟨w1, hw1⟩ : ∃ W, W = wA.alloc (.cells #[.int .i64 num, .int .i64 0, .int .i64 e, .int .i64 at_, .slice none 0 0] 73) := ⟨_, rfl⟩
  obtain ⟨xs, hxs⟩ : ∃ xs, xs = (Rq.fail num e at_ n).xs := ⟨_, rfl⟩
  have HXS : Hid (xs = (Rq.fail num e at_ n).xs) := hxs
  have HF1 : Hid (FailS w w1 q0 q1 ⟨num, 0, e, at_, []⟩ (.slice none 0 0) []) := by
    have hA : Below w.heap.size w wA := by rw [hwA]; exact (Below.refl _ w).alloc (Nat.le_refl _) _
    have hAs : wA.heap.size = w.heap.size + 1 := by rw [hwA, World.size_alloc]
    have h1A : Below wA.heap.size wA w1 := by rw [hw1]; exact (Below.refl _ wA).alloc (Nat.le_refl _) _
    refine ⟨?_, ?_, Xo.nil _ _, fun x hx => (by cases hx), by omega, by omega, hA.trans (h1A.mono (by omega))⟩
    · have h : RepV wA q0 Rq.zero (.slice none 0 0) := by rw [hwA, hq0]; exact RepV.made w Rq.zero _ _
      exact h.below h1A
    · rw [hw1, hq1, ← hAs]
      exact RepV.made wA ⟨num, 0, e, at_, []⟩ _ _
  have HRV : Hid (∀ u, rpv (Rq.fail num e at_ n) u = .agg #[.int .i64 num, .int .i64 0, .int .i64 e, .int .i64 at_, u]) := fun u => rfl
  rw [← hxs]
  clear hxs
  go_enter Tryz.func79, Tryz.ntmps79
  go_upto_region 2 with fail
  rw [← hq1, ← hq0, ← hwA, ← hw1]
  clear hq0 hq1 hwA hw1
  by_cases hbad : n < 0 ∨ 16 < n
  · have HNIL : Hid (xs = []) := by
      have h : xs = [] := by rw [HXS.out]; unfold Rq.fail; simp only []; rw [if_pos hbad]
      exact h
    have hc0 := HF1.out.ans.box.c0
    have hc1 := HF1.out.ans.box.c1
    have hc2 := HF1.out.ans.box.c2
    have hc3 := HF1.out.ans.box.c3
    have hc4 := HF1.out.ans.box.c4
    have hf0 := HF1.out.ans.free 0
    have hf1 := HF1.out.ans.free 1
    have hf2 := HF1.out.ans.free 2
    have hf3 := HF1.out.ans.free 3
    have hf4 := HF1.out.ans.free 4
    have hr0 := HF1.out.rep.box.c0
    have hr1 := HF1.out.rep.box.c1
    have hr2 := HF1.out.rep.box.c2
    have hr3 := HF1.out.rep.box.c3
    have hr4 := HF1.out.rep.box.c4
    simp only [Rq.zero] at hc0 hc1 hc2 hc3 hc4 hr0 hr1 hr2 hr3 hr4
    rcases hbad with hbad | hbad
    all_goals
      go_wp2
      clear hc0 hc1 hc2 hc3 hc4 hf0 hf1 hf2 hf3 hf4 hr0 hr1 hr2 hr3 hr4
      have htold := HF1.out.told
      simp only [] at htold
      generalize ((((w1.setCell ⟨q0, 0, none⟩ (.int .i64 num)).setCell ⟨q0, 1, none⟩ (.int .i64 0)).setCell ⟨q0, 2, none⟩ (.int .i64 e)).setCell ⟨q0, 3, none⟩ (.int .i64 at_)).setCell ⟨q0, 4, none⟩ (.slice none 0 0) = wz at *
      obtain ⟨hzb, ⟨hz0, hz1, hz2, hz3, hz4⟩, hol⟩ := htold
      simp only [] at hz0 hz1 hz2 hz3 hz4
      (try simp only [Exit.inBlock, Exit.then])
      refine bodyPost_ret (v := .agg #[.int .i64 num, .int .i64 0, .int .i64 e, .int .i64 at_, .slice none 0 0]) ?_ rfl ⟨_, by rw [HRV.out], by rw [HNIL.out]; exact hol, hzb⟩
      simp [results, Tryz.results79, go_sem, hz0, hz1, hz2, hz3, hz4]
  · have h1 : ¬ n < 0 := fun h => hbad (Or.inl h)
    have h2 : ¬ 16 < n := fun h => hbad (Or.inr h)
    have HXS2 : Hid (xs = Rq.fails e at_ n.toNat) := by
      have h : xs = Rq.fails e at_ n.toNat := by rw [HXS.out]; unfold Rq.fail; simp only []; rw [if_neg hbad]
      exact h
    clear hbad
    go_wp2
    go_loopw [24] (fun i wr => ∃ (k : Nat) (v : Value), (k : Int) ≤ n ∧ i = .int .i64 (k : Int) ∧ FailS w wr q0 q1 ⟨num, 0, e, at_, []⟩ v (Rq.fails e at_ k)) (fun i _ => (n - intOf i).toNat)
    case atStart => exact ⟨0, .slice none 0 0, by omega, rfl, HF1.out⟩
    case round =>
      obtain ⟨k, v, hk, rfl, hfs⟩ := hrel
      obtain ⟨av, mv, cv, rfl⟩ : ∃ a m c, v = .slice a m c := by
        rcases hfs.own.own.2 with ⟨rfl, _⟩ | ⟨g, cap, cur, rfl, _⟩
        · exact ⟨_, _, _, rfl⟩
        · exact ⟨_, _, _, rfl⟩
      have HFS : Hid (FailS w wr q0 q1 ⟨num, 0, e, at_, []⟩ (.slice av mv cv) (Rq.fails e at_ k)) := hfs
      clear hfs
      by_cases hlt : (k : Int) < n
      · obtain ⟨E, hE⟩ : ∃ E : Int, E = if (k : Int) = at_ then e else 14 := ⟨_, rfl⟩
        have HE : Hid (Rq.fails e at_ (k + 1) = Rq.fails e at_ k ++ [Rq.skip E]) := by rw [hE]; exact fails_more e at_ k
        have HWX : Hid (Below wr.heap.size wr (wr.alloc (.cells #[.int .i64 E, .string ⟨#[]⟩, .string ⟨#[]⟩, .slice none 0 0, .int .i64 0, .int .i64 0, .int .i64 0, .int .i64 0, .int .i64 0, .int .i64 0, .int .i64 0] 31))) := (Below.refl _ wr).alloc (Nat.le_refl _) _
        have HXO : Hid (Xo (wr.alloc (.cells #[.int .i64 E, .string ⟨#[]⟩, .string ⟨#[]⟩, .slice none 0 0, .int .i64 0, .int .i64 0, .int .i64 0, .int .i64 0, .int .i64 0, .int .i64 0, .int .i64 0] 31)) (q1 + 1) (.slice av mv cv) ((Rq.fails e at_ k).map fun x => (x, .slice none 0 0))) := HFS.out.own.below HWX.out
        have HBX : Hid (BoxX (wr.alloc (.cells #[.int .i64 E, .string ⟨#[]⟩, .string ⟨#[]⟩, .slice none 0 0, .int .i64 0, .int .i64 0, .int .i64 0, .int .i64 0, .int .i64 0, .int .i64 0, .int .i64 0] 31)) wr.heap.size (Rq.skip E) (.slice none 0 0)) := BoxX.made wr (Rq.skip E) _ _
        have HLQ : Hid (q1 + 1 ≤ (wr.alloc (.cells #[.int .i64 E, .string ⟨#[]⟩, .string ⟨#[]⟩, .slice none 0 0, .int .i64 0, .int .i64 0, .int .i64 0, .int .i64 0, .int .i64 0, .int .i64 0, .int .i64 0] 31)).heap.size ∧ ((Rq.fails e at_ k).map fun x => ((x, Value.slice none 0 0) : X × Value)).length ≤ 1000) := ⟨(HFS.out.rep.below HWX.out).lt, by rw [List.length_map, fails_len]; omega⟩
        by_cases hka : (k : Int) = at_
        · have hE1 : E = e := by rw [hE, if_pos hka]
          clear hE
          rw [hE1] at HE HWX HXO HLQ HBX
          clear hE1
          go_upto_region 10 with fail
          generalize wr.alloc (.cells #[.int .i64 e, .string ⟨#[]⟩, .string ⟨#[]⟩, .slice none 0 0, .int .i64 0, .int .i64 0, .int .i64 0, .int .i64 0, .int .i64 0, .int .i64 0, .int .i64 0] 31) = wX at *
          have hrX := (HFS.out.rep.below HWX.out).box.c4
          obtain ⟨b0, b1, b2, b3, b4, b5, b6, b7, b8, b9, b10⟩ := HBX.out
          simp only [Rq.skip] at b0 b1 b2 b3 b4 b5 b6 b7 b8 b9 b10
          go_wp2_with (at_builtin; refine append_x1 rfl _ _ rfl (q1 + 1) (.slice av mv cv) _ (Rq.skip e, .slice none 0 0) wX _ rfl rfl rfl HXO.out (World.ownsRow_nil _ _ _ _) HLQ.out.1 HLQ.out.2 ?_)
          intro v2 w2 hX2 hg2
          obtain ⟨a2, m2, c2, rfl⟩ : ∃ a m c, v2 = .slice a m c := by
            rcases hX2.own.2 with ⟨rfl, _⟩ | ⟨g, cap, cur, rfl, _⟩
            · exact ⟨_, _, _, rfl⟩
            · exact ⟨_, _, _, rfl⟩
          have ha := World.grownBy_alloc wX (.cells (xc (Rq.skip e) (.slice none 0 0)).toArray 31) none
          have hg3 : wX.grownBy w2 (Value.slice av mv cv).ownBlock := grownBy_trans ⟨ha.os, ha.tape, ha.output, ha.size, fun k hk _ => ha.block k hk (by simp)⟩ hg2
          have HP : Hid (FailS w (w2.setCell ⟨q1, 4, none⟩ (.slice a2 m2 c2)) q0 q1 ⟨num, 0, e, at_, []⟩ (.slice a2 m2 c2) (Rq.fails e at_ (k + 1))) := by
            rw [HE.out]
            exact HFS.out.push rfl HWX.out (by rw [List.map_append]; exact hX2) hg3
          obtain ⟨kb, hkb, hBk⟩ := HFS.out.own.where_ HFS.out.rep.lt (grownBy_below HWX.out) hg3
          have HR2 : Hid (RepV w2 q1 ⟨num, 0, e, at_, []⟩ (.slice av mv cv)) := HFS.out.rep.grown hkb (by omega)
          clear hX2 hg2 hg3 hkb hBk hrX ha b0 b1 b2 b3 b4 b5 b6 b7 b8 b9 b10
          have hc4 := HR2.out.box.c4
          have hf4 := HR2.out.free 4
          go_wp2
          clear hc4 hf4
          generalize w2.setCell ⟨q1, 4, none⟩ (.slice a2 m2 c2) = w3 at *
          go_roundw
          case rel => exact ⟨k + 1, .slice a2 m2 c2, by omega, by go_num, HP.out⟩
          case measure => simp [intOf]; omega
        · have hE1 : E = 14 := by rw [hE, if_neg hka]
          clear hE
          subst hE1
          go_upto_region 10 with fail
          generalize wr.alloc (.cells #[.int .i64 14, .string ⟨#[]⟩, .string ⟨#[]⟩, .slice none 0 0, .int .i64 0, .int .i64 0, .int .i64 0, .int .i64 0, .int .i64 0, .int .i64 0, .int .i64 0] 31) = wX at *
          have hrX := (HFS.out.rep.below HWX.out).box.c4
          obtain ⟨b0, b1, b2, b3, b4, b5, b6, b7, b8, b9, b10⟩ := HBX.out
          simp only [Rq.skip] at b0 b1 b2 b3 b4 b5 b6 b7 b8 b9 b10
          go_wp2_with (at_builtin; refine append_x1 rfl _ _ rfl (q1 + 1) (.slice av mv cv) _ (Rq.skip 14, .slice none 0 0) wX _ rfl rfl rfl HXO.out (World.ownsRow_nil _ _ _ _) HLQ.out.1 HLQ.out.2 ?_)
          intro v2 w2 hX2 hg2
          obtain ⟨a2, m2, c2, rfl⟩ : ∃ a m c, v2 = .slice a m c := by
            rcases hX2.own.2 with ⟨rfl, _⟩ | ⟨g, cap, cur, rfl, _⟩
            · exact ⟨_, _, _, rfl⟩
            · exact ⟨_, _, _, rfl⟩
          have ha := World.grownBy_alloc wX (.cells (xc (Rq.skip 14) (.slice none 0 0)).toArray 31) none
          have hg3 : wX.grownBy w2 (Value.slice av mv cv).ownBlock := grownBy_trans ⟨ha.os, ha.tape, ha.output, ha.size, fun k hk _ => ha.block k hk (by simp)⟩ hg2
          have HP : Hid (FailS w (w2.setCell ⟨q1, 4, none⟩ (.slice a2 m2 c2)) q0 q1 ⟨num, 0, e, at_, []⟩ (.slice a2 m2 c2) (Rq.fails e at_ (k + 1))) := by
            rw [HE.out]
            exact HFS.out.push rfl HWX.out (by rw [List.map_append]; exact hX2) hg3
          obtain ⟨kb, hkb, hBk⟩ := HFS.out.own.where_ HFS.out.rep.lt (grownBy_below HWX.out) hg3
          have HR2 : Hid (RepV w2 q1 ⟨num, 0, e, at_, []⟩ (.slice av mv cv)) := HFS.out.rep.grown hkb (by omega)
          clear hX2 hg2 hg3 hkb hBk hrX ha b0 b1 b2 b3 b4 b5 b6 b7 b8 b9 b10
          have hc4 := HR2.out.box.c4
          have hf4 := HR2.out.free 4
          go_wp2
          clear hc4 hf4
          generalize w2.setCell ⟨q1, 4, none⟩ (.slice a2 m2 c2) = w3 at *
          go_roundw
          case rel => exact ⟨k + 1, .slice a2 m2 c2, by omega, by go_num, HP.out⟩
          case measure => simp [intOf]; omega
      · have HKN : Hid (xs = Rq.fails e at_ k) := by
          have h : xs = Rq.fails e at_ k := by rw [HXS2.out, show n.toNat = k by omega]
          exact h
        have hc0 := HFS.out.ans.box.c0
        have hc1 := HFS.out.ans.box.c1
        have hc2 := HFS.out.ans.box.c2
        have hc3 := HFS.out.ans.box.c3
        have hc4 := HFS.out.ans.box.c4
        have hf0 := HFS.out.ans.free 0
        have hf1 := HFS.out.ans.free 1
        have hf2 := HFS.out.ans.free 2
        have hf3 := HFS.out.ans.free 3
        have hf4 := HFS.out.ans.free 4
        have hr0 := HFS.out.rep.box.c0
        have hr1 := HFS.out.rep.box.c1
        have hr2 := HFS.out.rep.box.c2
        have hr3 := HFS.out.rep.box.c3
        have hr4 := HFS.out.rep.box.c4
        simp only [Rq.zero] at hc0 hc1 hc2 hc3 hc4 hr0 hr1 hr2 hr3 hr4
        go_wp2
        clear hc0 hc1 hc2 hc3 hc4 hf0 hf1 hf2 hf3 hf4 hr0 hr1 hr2 hr3 hr4
        have htold := HFS.out.told
        simp only [] at htold
        generalize ((((wr.setCell ⟨q0, 0, none⟩ (.int .i64 num)).setCell ⟨q0, 1, none⟩ (.int .i64 0)).setCell ⟨q0, 2, none⟩ (.int .i64 e)).setCell ⟨q0, 3, none⟩ (.int .i64 at_)).setCell ⟨q0, 4, none⟩ (.slice av mv cv) = wz at *
        obtain ⟨hzb, ⟨hz0, hz1, hz2, hz3, hz4⟩, hol⟩ := htold
        simp only [] at hz0 hz1 hz2 hz3 hz4
        (try simp only [Exit.inBlock, Exit.then])
        refine bodyPost_ret (v := .agg #[.int .i64 num, .int .i64 0, .int .i64 e, .int .i64 at_, .slice av mv cv]) ?_ rfl ⟨_, by rw [HRV.out], by rw [HKN.out]; exact hol, hzb⟩
        simp [results, Tryz.results79, go_sem, hz0, hz1, hz2, hz3, hz4]
end Go.Proofs.YtfcbdjjbchcpjaaGreatDoor
