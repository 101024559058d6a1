import Derived.Test.YtboejbjobjhajaaGreatDoorPm2
import Derived.Test.YtboejbjobjhajaaGreatDoorBas
import Derived.Deep.DeepCutAuto
import Derived.Laws.ResultCell
import Derived.Test.YtboejbjobjhajaaGreatDoorRes12
import Derived.Test.YtboejbjobjhajaaGreatDoorWt2
import Derived.Test.YtboejbjobjhajaaGreatDoorWt1
import Derived.Test.YtboejbjobjhajaaGreatDoorShelf13
namespace Go.Proofs.YtboejbjobjhajaaGreatDoor
open Go.RowKit
set_option maxRecDepth 20000 in
set_option maxHeartbeats 4000000 in
theorem fail_any12 (num e at_ n : Int) (w : World) (hn : -9223372036854775808 ≤ n) (hn2 : n ≤ 9223372036854775807) :
    Calls Tryz.prog 56 #[.int .i64 num, .int .i64 e, .int .i64 at_, .int .i64 n] w fun ed w' => ∃ u, ed = .returned (rpv (Rq.fail num e at_ n) u) ∧ (Rl w' u (Rq.fail num e at_ n).xs ∧ ∀ k, u.ownBlock = some k → w.heap.size ≤ k) ∧ Below w.heap.size w w' := by
  obtain ⟨q0, hq0⟩ : ∃ q, q = w.heap.size := ⟨_, rfl⟩
  obtain ⟨q1, hq1⟩ : ∃ q, q = w.heap.size + 1 := ⟨_, rfl⟩
  obtain ⟨wA, hwA⟩ : ∃ W, W = w.alloc (.cells #[.int .i64 0, .int .i64 0, .int .i64 0, .int .i64 0, .slice none 0 0] 37) := ⟨_, rfl⟩
  obtain ⟨w1, hw1⟩ : ∃ W, W = wA.alloc (.cells #[.int .i64 num, .int .i64 0, .int .i64 e, .int .i64 at_, .slice none 0 0] 37) := ⟨_, rfl⟩
  obtain ⟨xs, hxs⟩ : ∃ xs, xs = (Rq.fail num e at_ n).xs := ⟨_, rfl⟩
  have HXS : Hid (xs = (Rq.fail num e at_ n).xs) := hxs
  have HF1 : Hid (FailS w w1 q0 q1 ⟨num, 0, e, at_, []⟩ (.slice none 0 0) []) := by
    have hA : Below w.heap.size w wA := by rw [hwA]; exact (Below.refl _ w).alloc (Nat.le_refl _) _
    have hAs : wA.heap.size = w.heap.size + 1 := by rw [hwA, World.size_alloc]
    have h1A : Below wA.heap.size wA w1 := by rw [hw1]; exact (Below.refl _ wA).alloc (Nat.le_refl _) _
    refine ⟨?_, ?_, Xo.nil _ _, fun x hx => (by cases hx), by omega, by omega, hA.trans (h1A.mono (by omega))⟩
    · have h : RepV wA q0 Rq.zero (.slice none 0 0) := by rw [hwA, hq0]; exact RepV.made w Rq.zero _ _
      exact h.below h1A
    · rw [hw1, hq1, ← hAs]
      exact RepV.made wA ⟨num, 0, e, at_, []⟩ _ _
  have HRV : Hid (∀ u, rpv (Rq.fail num e at_ n) u = .agg #[.int .i64 num, .int .i64 0, .int .i64 e, .int .i64 at_, u]) := fun u => rfl
  rw [← hxs]
  clear hxs
  go_enter Tryz.func56, Tryz.ntmps56
  go_upto_region 2 with fail
  rw [← hq1, ← hq0, ← hwA, ← hw1]
  clear hq0 hq1 hwA hw1
  by_cases hbad : n < 0 ∨ 16 < n
  · have HNIL : Hid (xs = []) := by
      have h : xs = [] := by rw [HXS.out]; unfold Rq.fail; simp only []; rw [if_pos hbad]
      exact h
    have hc0 := HF1.out.ans.box.c0
    have hc1 := HF1.out.ans.box.c1
    have hc2 := HF1.out.ans.box.c2
    have hc3 := HF1.out.ans.box.c3
    have hc4 := HF1.out.ans.box.c4
    have hf0 := HF1.out.ans.free 0
    have hf1 := HF1.out.ans.free 1
    have hf2 := HF1.out.ans.free 2
    have hf3 := HF1.out.ans.free 3
    have hf4 := HF1.out.ans.free 4
    have hr0 := HF1.out.rep.box.c0
    have hr1 := HF1.out.rep.box.c1
    have hr2 := HF1.out.rep.box.c2
    have hr3 := HF1.out.rep.box.c3
    have hr4 := HF1.out.rep.box.c4
    simp only [Rq.zero] at hc0 hc1 hc2 hc3 hc4 hr0 hr1 hr2 hr3 hr4
    rcases hbad with hbad | hbad
    all_goals
      go_wp2
      clear hc0 hc1 hc2 hc3 hc4 hf0 hf1 hf2 hf3 hf4 hr0 hr1 hr2 hr3 hr4
      have htold := HF1.out.told
      simp only [] at htold
      generalize ((((w1.setCell ⟨q0, 0, none⟩ (.int .i64 num)).setCell ⟨q0, 1, none⟩ (.int .i64 0)).setCell ⟨q0, 2, none⟩ (.int .i64 e)).setCell ⟨q0, 3, none⟩ (.int .i64 at_)).setCell ⟨q0, 4, none⟩ (.slice none 0 0) = wz at *
      obtain ⟨hzb, ⟨hz0, hz1, hz2, hz3, hz4⟩, hol⟩ := htold
      simp only [] at hz0 hz1 hz2 hz3 hz4
      (try simp only [Exit.inBlock, Exit.then])
      refine bodyPost_ret (v := .agg #[.int .i64 num, .int .i64 0, .int .i64 e, .int .i64 at_, .slice none 0 0]) ?_ rfl ⟨_, by rw [HRV.out], by rw [HNIL.out]; exact hol, hzb⟩
      simp [results, Tryz.results56, go_sem, hz0, hz1, hz2, hz3, hz4]
  · have h1 : ¬ n < 0 := fun h => hbad (Or.inl h)
    have h2 : ¬ 16 < n := fun h => hbad (Or.inr h)
    have HXS2 : Hid (xs = Rq.fails e at_ n.toNat) := by
      have h : xs = Rq.fails e at_ n.toNat := by rw [HXS.out]; unfold Rq.fail; simp only []; rw [if_neg hbad]
      exact h
    clear hbad
    go_wp2
    go_loopw [24] (fun i wr => ∃ (k : Nat) (v : Value), (k : Int) ≤ n ∧ i = .int .i64 (k : Int) ∧ FailS w wr q0 q1 ⟨num, 0, e, at_, []⟩ v (Rq.fails e at_ k)) (fun i _ => (n - intOf i).toNat)
    case atStart => exact ⟨0, .slice none 0 0, by omega, rfl, HF1.out⟩
    case round =>
      obtain ⟨k, v, hk, rfl, hfs⟩ := hrel
      obtain ⟨av, mv, cv, rfl⟩ : ∃ a m c, v = .slice a m c := by
        rcases hfs.own.own.2 with ⟨rfl, _⟩ | ⟨g, cap, cur, rfl, _⟩
        · exact ⟨_, _, _, rfl⟩
        · exact ⟨_, _, _, rfl⟩
      have HFS : Hid (FailS w wr q0 q1 ⟨num, 0, e, at_, []⟩ (.slice av mv cv) (Rq.fails e at_ k)) := hfs
      clear hfs
      by_cases hlt : (k : Int) < n
      · obtain ⟨E, hE⟩ : ∃ E : Int, E = if (k : Int) = at_ then e else 14 := ⟨_, rfl⟩
        have HE : Hid (Rq.fails e at_ (k + 1) = Rq.fails e at_ k ++ [Rq.skip E]) := by rw [hE]; exact fails_more e at_ k
        have HWX : Hid (Below wr.heap.size wr (wr.alloc (.cells #[.int .i64 E, .string ⟨#[]⟩, .string ⟨#[]⟩, .slice none 0 0, .int .i64 0, .int .i64 0, .int .i64 0, .int .i64 0, .int .i64 0, .int .i64 0, .int .i64 0] 75))) := (Below.refl _ wr).alloc (Nat.le_refl _) _
        have HXO : Hid (Xo (wr.alloc (.cells #[.int .i64 E, .string ⟨#[]⟩, .string ⟨#[]⟩, .slice none 0 0, .int .i64 0, .int .i64 0, .int .i64 0, .int .i64 0, .int .i64 0, .int .i64 0, .int .i64 0] 75)) (q1 + 1) (.slice av mv cv) ((Rq.fails e at_ k).map fun x => (x, .slice none 0 0))) := HFS.out.own.below HWX.out
        have HBX : Hid (BoxX (wr.alloc (.cells #[.int .i64 E, .string ⟨#[]⟩, .string ⟨#[]⟩, .slice none 0 0, .int .i64 0, .int .i64 0, .int .i64 0, .int .i64 0, .int .i64 0, .int .i64 0, .int .i64 0] 75)) wr.heap.size (Rq.skip E) (.slice none 0 0)) := BoxX.made wr (Rq.skip E) _ _
        have HLQ : Hid (q1 + 1 ≤ (wr.alloc (.cells #[.int .i64 E, .string ⟨#[]⟩, .string ⟨#[]⟩, .slice none 0 0, .int .i64 0, .int .i64 0, .int .i64 0, .int .i64 0, .int .i64 0, .int .i64 0, .int .i64 0] 75)).heap.size ∧ ((Rq.fails e at_ k).map fun x => ((x, Value.slice none 0 0) : X × Value)).length ≤ 1000) := ⟨(HFS.out.rep.below HWX.out).lt, by rw [List.length_map, fails_len]; omega⟩
        by_cases hka : (k : Int) = at_
        · have hE1 : E = e := by rw [hE, if_pos hka]
          clear hE
          rw [hE1] at HE HWX HXO HLQ HBX
          clear hE1
          go_upto_region 10 with fail
          generalize wr.alloc (.cells #[.int .i64 e, .string ⟨#[]⟩, .string ⟨#[]⟩, .slice none 0 0, .int .i64 0, .int .i64 0, .int .i64 0, .int .i64 0, .int .i64 0, .int .i64 0, .int .i64 0] 75) = wX at *
          have hrX := (HFS.out.rep.below HWX.out).box.c4
          obtain ⟨b0, b1, b2, b3, b4, b5, b6, b7, b8, b9, b10⟩ := HBX.out
          simp only [Rq.skip] at b0 b1 b2 b3 b4 b5 b6 b7 b8 b9 b10
          go_wp2_with (at_builtin; refine append_x1 rfl _ _ rfl (q1 + 1) (.slice av mv cv) _ (Rq.skip e, .slice none 0 0) wX _ rfl rfl rfl HXO.out (World.ownsRow_nil _ _ _ _) HLQ.out.1 HLQ.out.2 ?_)
          intro v2 w2 hX2 hg2
          obtain ⟨a2, m2, c2, rfl⟩ : ∃ a m c, v2 = .slice a m c := by
            rcases hX2.own.2 with ⟨rfl, _⟩ | ⟨g, cap, cur, rfl, _⟩
            · exact ⟨_, _, _, rfl⟩
            · exact ⟨_, _, _, rfl⟩
          have ha := World.grownBy_alloc wX (.cells (xc (Rq.skip e) (.slice none 0 0)).toArray 75) none
          have hg3 : wX.grownBy w2 (Value.slice av mv cv).ownBlock := grownBy_trans ⟨ha.os, ha.tape, ha.output, ha.size, fun k hk _ => ha.block k hk (by simp)⟩ hg2
          have HP : Hid (FailS w (w2.setCell ⟨q1, 4, none⟩ (.slice a2 m2 c2)) q0 q1 ⟨num, 0, e, at_, []⟩ (.slice a2 m2 c2) (Rq.fails e at_ (k + 1))) := by
            rw [HE.out]
            exact HFS.out.push rfl HWX.out (by rw [List.map_append]; exact hX2) hg3
          obtain ⟨kb, hkb, hBk⟩ := HFS.out.own.where_ HFS.out.rep.lt (grownBy_below HWX.out) hg3
          have HR2 : Hid (RepV w2 q1 ⟨num, 0, e, at_, []⟩ (.slice av mv cv)) := HFS.out.rep.grown hkb (by omega)
          clear hX2 hg2 hg3 hkb hBk hrX ha b0 b1 b2 b3 b4 b5 b6 b7 b8 b9 b10
          have hc4 := HR2.out.box.c4
          have hf4 := HR2.out.free 4
          go_wp2
          clear hc4 hf4
          generalize w2.setCell ⟨q1, 4, none⟩ (.slice a2 m2 c2) = w3 at *
          go_roundw
          case rel => exact ⟨k + 1, .slice a2 m2 c2, by omega, by go_num, HP.out⟩
          case measure => simp [intOf]; omega
        · have hE1 : E = 14 := by rw [hE, if_neg hka]
          clear hE
          subst hE1
          go_upto_region 10 with fail
          generalize wr.alloc (.cells #[.int .i64 14, .string ⟨#[]⟩, .string ⟨#[]⟩, .slice none 0 0, .int .i64 0, .int .i64 0, .int .i64 0, .int .i64 0, .int .i64 0, .int .i64 0, .int .i64 0] 75) = wX at *
          have hrX := (HFS.out.rep.below HWX.out).box.c4
          obtain ⟨b0, b1, b2, b3, b4, b5, b6, b7, b8, b9, b10⟩ := HBX.out
          simp only [Rq.skip] at b0 b1 b2 b3 b4 b5 b6 b7 b8 b9 b10
          go_wp2_with (at_builtin; refine append_x1 rfl _ _ rfl (q1 + 1) (.slice av mv cv) _ (Rq.skip 14, .slice none 0 0) wX _ rfl rfl rfl HXO.out (World.ownsRow_nil _ _ _ _) HLQ.out.1 HLQ.out.2 ?_)
          intro v2 w2 hX2 hg2
          obtain ⟨a2, m2, c2, rfl⟩ : ∃ a m c, v2 = .slice a m c := by
            rcases hX2.own.2 with ⟨rfl, _⟩ | ⟨g, cap, cur, rfl, _⟩
            · exact ⟨_, _, _, rfl⟩
            · exact ⟨_, _, _, rfl⟩
          have ha := World.grownBy_alloc wX (.cells (xc (Rq.skip 14) (.slice none 0 0)).toArray 75) none
          have hg3 : wX.grownBy w2 (Value.slice av mv cv).ownBlock := grownBy_trans ⟨ha.os, ha.tape, ha.output, ha.size, fun k hk _ => ha.block k hk (by simp)⟩ hg2
          have HP : Hid (FailS w (w2.setCell ⟨q1, 4, none⟩ (.slice a2 m2 c2)) q0 q1 ⟨num, 0, e, at_, []⟩ (.slice a2 m2 c2) (Rq.fails e at_ (k + 1))) := by
            rw [HE.out]
            exact HFS.out.push rfl HWX.out (by rw [List.map_append]; exact hX2) hg3
          obtain ⟨kb, hkb, hBk⟩ := HFS.out.own.where_ HFS.out.rep.lt (grownBy_below HWX.out) hg3
          have HR2 : Hid (RepV w2 q1 ⟨num, 0, e, at_, []⟩ (.slice av mv cv)) := HFS.out.rep.grown hkb (by omega)
          clear hX2 hg2 hg3 hkb hBk hrX ha b0 b1 b2 b3 b4 b5 b6 b7 b8 b9 b10
          have hc4 := HR2.out.box.c4
          have hf4 := HR2.out.free 4
          go_wp2
          clear hc4 hf4
          generalize w2.setCell ⟨q1, 4, none⟩ (.slice a2 m2 c2) = w3 at *
          go_roundw
          case rel => exact ⟨k + 1, .slice a2 m2 c2, by omega, by go_num, HP.out⟩
          case measure => simp [intOf]; omega
      · have HKN : Hid (xs = Rq.fails e at_ k) := by
          have h : xs = Rq.fails e at_ k := by rw [HXS2.out, show n.toNat = k by omega]
          exact h
        have hc0 := HFS.out.ans.box.c0
        have hc1 := HFS.out.ans.box.c1
        have hc2 := HFS.out.ans.box.c2
        have hc3 := HFS.out.ans.box.c3
        have hc4 := HFS.out.ans.box.c4
        have hf0 := HFS.out.ans.free 0
        have hf1 := HFS.out.ans.free 1
        have hf2 := HFS.out.ans.free 2
        have hf3 := HFS.out.ans.free 3
        have hf4 := HFS.out.ans.free 4
        have hr0 := HFS.out.rep.box.c0
        have hr1 := HFS.out.rep.box.c1
        have hr2 := HFS.out.rep.box.c2
        have hr3 := HFS.out.rep.box.c3
        have hr4 := HFS.out.rep.box.c4
        simp only [Rq.zero] at hc0 hc1 hc2 hc3 hc4 hr0 hr1 hr2 hr3 hr4
        go_wp2
        clear hc0 hc1 hc2 hc3 hc4 hf0 hf1 hf2 hf3 hf4 hr0 hr1 hr2 hr3 hr4
        have htold := HFS.out.told
        simp only [] at htold
        generalize ((((wr.setCell ⟨q0, 0, none⟩ (.int .i64 num)).setCell ⟨q0, 1, none⟩ (.int .i64 0)).setCell ⟨q0, 2, none⟩ (.int .i64 e)).setCell ⟨q0, 3, none⟩ (.int .i64 at_)).setCell ⟨q0, 4, none⟩ (.slice av mv cv) = wz at *
        obtain ⟨hzb, ⟨hz0, hz1, hz2, hz3, hz4⟩, hol⟩ := htold
        simp only [] at hz0 hz1 hz2 hz3 hz4
        (try simp only [Exit.inBlock, Exit.then])
        refine bodyPost_ret (v := .agg #[.int .i64 num, .int .i64 0, .int .i64 e, .int .i64 at_, .slice av mv cv]) ?_ rfl ⟨_, by rw [HRV.out], by rw [HKN.out]; exact hol, hzb⟩
        simp [results, Tryz.results56, go_sem, hz0, hz1, hz2, hz3, hz4]
end Go.Proofs.YtboejbjobjhajaaGreatDoor
namespace Go.Proofs.YtboejbjobjhajaaGreatDoor
open Go.RowKit
theorem It12.made {LT : Rep11} (S : Specs11 LT) (w : World) (q : Nat) (t : Tq.Tr) (F : Nat → Prop) (z : Int) (h : LT w q t F) : It12 LT w ((w.alloc (.cells #[.int .i64 0, .int .i64 0, .int .i64 0, .int .i64 0, .slice none 0 0] 37)).alloc (.cells #[.int .i64 0, .int .i64 z, .int .i64 0, .int .i64 (-1), .slice none 0 0] 37)) q t F F w.heap.size (w.heap.size + 1) z (.slice none 0 0) [] := by
  have h1 := (Below.refl _ w).alloc (Nat.le_refl _) (.cells #[.int .i64 0, .int .i64 0, .int .i64 0, .int .i64 0, .slice none 0 0] 37)
  have h2 := (Below.refl _ (w.alloc (.cells #[.int .i64 0, .int .i64 0, .int .i64 0, .int .i64 0, .slice none 0 0] 37))).alloc (Nat.le_refl _) (.cells #[.int .i64 0, .int .i64 z, .int .i64 0, .int .i64 (-1), .slice none 0 0] 37)
  have hs1 : (w.alloc (.cells #[.int .i64 0, .int .i64 0, .int .i64 0, .int .i64 0, .slice none 0 0] 37)).heap.size = w.heap.size + 1 := World.size_alloc _ _
  have h3 := h1.trans (h2.mono h1.size)
  have hlt : ∀ k, F k → k < w.heap.size := fun k hk => S.lt h hk
  have hc1 : Cb (w.alloc (.cells #[.int .i64 0, .int .i64 0, .int .i64 0, .int .i64 0, .slice none 0 0] 37)) w.heap.size [.int .i64 0, .int .i64 0, .int .i64 0, .int .i64 0, .slice none 0 0] 37 := Cb.made w _ _
  have hc2 : Cb ((w.alloc (.cells #[.int .i64 0, .int .i64 0, .int .i64 0, .int .i64 0, .slice none 0 0] 37)).alloc (.cells #[.int .i64 0, .int .i64 z, .int .i64 0, .int .i64 (-1), .slice none 0 0] 37)) (w.alloc (.cells #[.int .i64 0, .int .i64 0, .int .i64 0, .int .i64 0, .slice none 0 0] 37)).heap.size [.int .i64 0, .int .i64 z, .int .i64 0, .int .i64 (-1), .slice none 0 0] 37 := Cb.made (w.alloc (.cells #[.int .i64 0, .int .i64 0, .int .i64 0, .int .i64 0, .slice none 0 0] 37)) _ _
  rw [hs1] at hc2
  exact ⟨S.keep h (fun k hk => h3.block k (hlt k hk)), Moved.of_below F h3, ⟨hc1.below h2, fun e => by have := hlt _ e; omega⟩, ⟨hc2, fun e => by have := hlt _ e; omega⟩, by omega, Nat.le_refl _, by omega, World.ownsRow_nil _ _ _ _, fun k e => (by cases e), fun p hp => (by cases hp)⟩
set_option maxRecDepth 20000 in
set_option maxHeartbeats 8000000 in
theorem turn_any12 {LT : Rep11} (S : Specs11 LT) (D : SpecD12 LT) (q : Nat) (t : Tq.Tr) (F : Nat → Prop) (s z : Int) (v : Value) (os : List O) (m : Nat) (w : World) (hL : LT w q t F) (hf : Fine11 t) (hk : Tq.Few t m) (hm : m + os.length ≤ 899) (h6 : ∀ k, F k → 6 ≤ k) (hS : Pa.Std w) (hO : Om12 w F v os) (hok : ∀ o ∈ os, OFit o) (hn : os.length ≤ 16) :
    Calls Tryz.prog 94 #[dptr q, .int .i64 s, .int .i64 z, v] w fun e w' => ∃ F' u, e = .returned (.tuple #[rpv (Tq.turn t s z os).1.1 u, .bool (Tq.turn t s z os).1.2]) ∧ Rn12 w.heap.size F' w' u (Tq.turn t s z os).1.1.xs ∧ LT w' q (Tq.turn t s z os).2 F' ∧ Moved w w' F F' := by
  obtain ⟨T, hT⟩ : ∃ T, T = Tq.turn t s z os := ⟨_, rfl⟩
  rw [← hT]
  have HT : Hid (T = Tq.turn t s z os) := hT
  have HS : Hid (Specs11 LT ∧ SpecD12 LT ∧ Fine11 t ∧ Tq.Few t m ∧ m + os.length ≤ 899 ∧ (∀ k, F k → 6 ≤ k) ∧ Pa.Std w ∧ (∀ o ∈ os, OFit o)) := ⟨S, D, hf, hk, hm, h6, hS, hok⟩
  have HVB : Hid (os ≠ [] → ∀ k, v.ownBlock = some k → k < w.heap.size) := fun hne k hk => hO.lt hne hk
  have hOl := hO.ol
  obtain ⟨va, n, vc, rfl, hnn, hjj⟩ := hOl
  have HN : Hid (n = os.length) := hnn
  have hn16 : n ≤ 16 := by omega
  obtain ⟨a, ha⟩ : ∃ a, a = w.heap.size := ⟨_, rfl⟩
  obtain ⟨b, hb⟩ : ∃ b, b = w.heap.size + 1 := ⟨_, rfl⟩
  have H0 : Hid (It12 LT w ((w.alloc (.cells #[.int .i64 0, .int .i64 0, .int .i64 0, .int .i64 0, .slice none 0 0] 37)).alloc (.cells #[.int .i64 0, .int .i64 z, .int .i64 0, .int .i64 (-1), .slice none 0 0] 37)) q t F F a b z (.slice none 0 0) [] ∧ Om12 ((w.alloc (.cells #[.int .i64 0, .int .i64 0, .int .i64 0, .int .i64 0, .slice none 0 0] 37)).alloc (.cells #[.int .i64 0, .int .i64 z, .int .i64 0, .int .i64 (-1), .slice none 0 0] 37)) F (.slice va n vc) os) := by
    have hI := It12.made S w q t F z hL
    rw [ha, hb]
    exact ⟨hI, hO.moved hI.mv⟩
  clear S D hf hk hm h6 hS hok hjj hnn hO hL hT hn
  unfold dptr
  go_enter Tryz.func94, Tryz.ntmps94
  go_upto_region 2 with fail
  rw [← hb, ← ha]
  clear ha hb
  generalize ((w.alloc (.cells #[.int .i64 0, .int .i64 0, .int .i64 0, .int .i64 0, .slice none 0 0] 37)).alloc (.cells #[.int .i64 0, .int .i64 z, .int .i64 0, .int .i64 (-1), .slice none 0 0] 37)) = w0 at *
  go_wp2
  go_loopw [18] (fun i wr => ∃ (k : Nat) (F' : Nat → Prop) (v : Value) (ps : List (X × Value)), k ≤ n ∧ i = .int .i64 (k : Int) ∧ It12 LT w wr q (Tq.after t s z (os.take k)) F F' a b z v ps ∧ ps.map (·.1) = Tq.says t s z (os.take k) ∧ Tq.bad t s z (os.take k) = none ∧ Om12 wr F' (.slice va n vc) os) (fun i _ => n - (intOf i).toNat)
  case atStart => exact ⟨0, F, _, [], Nat.zero_le _, rfl, H0.out.1, rfl, rfl, H0.out.2⟩
  case round =>
    obtain ⟨k, F1, v, ps, hk, rfl, hI, hps, hbad, hO⟩ := hrel
    have H1 : Hid (It12 LT w wr q (Tq.after t s z (os.take k)) F F1 a b z v ps ∧ ps.map (·.1) = Tq.says t s z (os.take k) ∧ Tq.bad t s z (os.take k) = none ∧ Om12 wr F1 (.slice va n vc) os ∧ Fine11 (Tq.after t s z (os.take k))) := ⟨hI, hps, hbad, hO, Tq.fine_after HS.out.2.2.1 HS.out.2.2.2.1 (by have := HS.out.2.2.2.2.1; rw [List.length_take]; omega)⟩
    clear hI hps hbad hO H0
    by_cases hlt : k < n
    · have hlt' : (k : Int) < (n : Int) := by omega
      have hk0 : (0 : Int) ≤ (k : Int) := by omega
      have hwk : IntKind.wrap .i64 ((k : Int) + 1) = (k : Int) + 1 := by rw [IntKind.wrap_i64]; omega
      have hkl : k < os.length := by rw [← HN.out]; exact hlt
      obtain ⟨g, bb, c', hv', hcs⟩ := H1.out.2.2.2.1.ol.at (by omega)
      simp only [Value.slice.injEq] at hv'
      obtain ⟨rfl, hq, rfl⟩ := hv'
      obtain ⟨c0, c1, c2, c3, c4⟩ := hcs k os[k] (List.getElem?_eq_getElem hkl)
      have HK : Hid (os[k]? = some os[k]) := List.getElem?_eq_getElem hkl
      generalize os[k] = o at *
      have HO : Hid (OFit o) := HS.out.2.2.2.2.2.2.2 o (List.mem_of_getElem? HK.out)
      clear hcs hq hkl
      obtain ⟨t1, ht1⟩ : ∃ t1, t1 = Tq.after t s z (os.take k) := ⟨_, rfl⟩
      rw [← ht1] at H1
      have HT1 : Hid (t1 = Tq.after t s z (os.take k)) := ht1
      clear ht1
      obtain ⟨ob, hob⟩ : ∃ z, z = wr.heap.size := ⟨_, rfl⟩
      have HBO : Hid (Below wr.heap.size wr (wr.alloc (.cells #[.int .i64 o.kind, .string o.path, .string o.data, .int .i64 o.ver, .int .i64 o.flags] 30))) := (Below.refl _ wr).alloc (Nat.le_refl _) _
      have H2 : Hid (It12 LT w (wr.alloc (.cells #[.int .i64 o.kind, .string o.path, .string o.data, .int .i64 o.ver, .int .i64 o.flags] 30)) q t1 F F1 a b z v ps ∧ Cb (wr.alloc (.cells #[.int .i64 o.kind, .string o.path, .string o.data, .int .i64 o.ver, .int .i64 o.flags] 30)) ob (oc o) 30 ∧ Om12 (wr.alloc (.cells #[.int .i64 o.kind, .string o.path, .string o.data, .int .i64 o.ver, .int .i64 o.flags] 30)) F1 (.slice (some ⟨g, bb, none⟩) n vc) os) := ⟨H1.out.1.later HS.out.1 HBO.out, by rw [hob]; exact Cb.made wr (oc o) _, H1.out.2.2.2.1.later HBO.out⟩
      go_upto_region 5 with fail
      rw [← hob]
      clear hob HBO c0 c1 c2 c3 c4
      generalize wr.alloc (.cells #[.int .i64 o.kind, .string o.path, .string o.data, .int .i64 o.ver, .int .i64 o.flags] 30) = w2 at *
      have c0 : w2.cell? ⟨ob, 0, none⟩ = some (.int .i64 o.kind) := H2.out.2.1.cell 0
      have c1 : w2.cell? ⟨ob, 1, none⟩ = some (.string o.path) := H2.out.2.1.cell 1
      have c2 : w2.cell? ⟨ob, 2, none⟩ = some (.string o.data) := H2.out.2.1.cell 2
      have c3 : w2.cell? ⟨ob, 3, none⟩ = some (.int .i64 o.ver) := H2.out.2.1.cell 3
      have c4 : w2.cell? ⟨ob, 4, none⟩ = some (.int .i64 o.flags) := H2.out.2.1.cell 4
      go_wp2_with fail
      clear c0 c1 c2 c3 c4
      refine (HS.out.2.1.doo q t1 F1 o s z w2 H2.out.1.ld H1.out.2.2.2.2 (fun k hk => (H2.out.1.mv.sub k hk).elim (HS.out.2.2.2.2.2.1 k) (fun h => Nat.le_trans HS.out.2.2.2.2.2.2.1.size h)) (HS.out.2.2.2.2.2.2.1.moved H2.out.1.mv HS.out.2.2.2.2.2.1) HO.out).mono ?_
      rintro e w3 ⟨F3, nv, rfl, hsq, hof, hnw, hl3, hmv⟩
      obtain ⟨x, t3, hxt⟩ : ∃ x t3, Tq.doo t1 o s z = (x, t3) := ⟨_, _, rfl⟩
      rw [hxt] at hsq hof hl3 ⊢
      simp only [] at hsq hof hl3 ⊢
      have hsq2 := hsq
      obtain ⟨na, nk, nc, rfl, hj1, hj2⟩ := hsq
      have HX : Hid (Tq.doo t1 o s z = (x, t3)) := hxt
      obtain ⟨xb, hxb⟩ : ∃ z, z = w3.heap.size := ⟨_, rfl⟩
      have H3 : Hid (It12 LT w (w3.alloc (.cells #[.int .i64 x.err, .string x.path, .string x.data, .slice na nk nc, .int .i64 x.made, .int .i64 x.changed, .int .i64 x.ver, .int .i64 x.kids, .int .i64 x.owner, .int .i64 x.len, .int .i64 x.cnt] 75)) q t3 F F3 a b z v ps ∧ Cb (w3.alloc (.cells #[.int .i64 x.err, .string x.path, .string x.data, .slice na nk nc, .int .i64 x.made, .int .i64 x.changed, .int .i64 x.ver, .int .i64 x.kids, .int .i64 x.owner, .int .i64 x.len, .int .i64 x.cnt] 75)) xb (xc x (.slice na nk nc)) 75 ∧ Om12 (w3.alloc (.cells #[.int .i64 x.err, .string x.path, .string x.data, .slice na nk nc, .int .i64 x.made, .int .i64 x.changed, .int .i64 x.ver, .int .i64 x.kids, .int .i64 x.owner, .int .i64 x.len, .int .i64 x.cnt] 75)) F3 (.slice (some ⟨g, bb, none⟩) n vc) os ∧ Sq (w3.alloc (.cells #[.int .i64 x.err, .string x.path, .string x.data, .slice na nk nc, .int .i64 x.made, .int .i64 x.changed, .int .i64 x.ver, .int .i64 x.kids, .int .i64 x.owner, .int .i64 x.len, .int .i64 x.cnt] 75)) (.slice na nk nc) x.names ∧ (x.names ≠ [] → ∀ k, (Value.slice na nk nc).ownBlock = some k → w.heap.size ≤ k ∧ ¬ F3 k ∧ k ≠ a ∧ k ≠ b ∧ v.ownBlock ≠ some k)) := by
        have hba := (Below.refl _ w3).alloc (Nat.le_refl _) (.cells #[.int .i64 x.err, .string x.path, .string x.data, .slice na nk nc, .int .i64 x.made, .int .i64 x.changed, .int .i64 x.ver, .int .i64 x.kids, .int .i64 x.owner, .int .i64 x.len, .int .i64 x.cnt] 75)
        have hI := H2.out.1.moved hl3 hmv
        refine ⟨hI.later HS.out.1 hba, by rw [hxb]; exact Cb.made w3 (xc x (.slice na nk nc)) _, (H2.out.2.2.moved hmv).later hba, hsq2.below hba, fun hne k e => ?_⟩
        have h1 := hnw k e
        have h2 := H2.out.1.ans.cb.lt
        have h3 := H2.out.1.told.cb.lt
        have h4 := H2.out.1.mv.size
        exact ⟨by omega, hof hne k e, by omega, by omega, fun e2 => by have := (H2.out.1.row.lt k e2).2; omega⟩
      clear hsq2 hof hnw hl3 hmv hj1 hj2 hxt H2
      unfold rv
      go_upto_region 6 with fail
      rw [← hxb]
      clear hxb
      generalize (w3.alloc (.cells #[.int .i64 x.err, .string x.path, .string x.data, .slice na nk nc, .int .i64 x.made, .int .i64 x.changed, .int .i64 x.ver, .int .i64 x.kids, .int .i64 x.owner, .int .i64 x.len, .int .i64 x.cnt] 75)) = w4 at *
      have e0 : w4.cell? ⟨xb, 0, none⟩ = some (.int .i64 x.err) := H3.out.2.1.cell 0
      by_cases hz : x.err = 0
      · have hzb : (x.err != 0) = false := by simp [hz]
        have HZ : Hid (x.err = 0) := hz
        clear hz
        go_upto_region 8 with fail
        clear e0 hzb
        have d4 : w4.cell? ⟨b, 4, none⟩ = some v := (H3.out.1.told.cb.cell 4).trans rfl
        obtain ⟨sb, hsb⟩ : ∃ z, z = w4.heap.size := ⟨_, rfl⟩
        obtain ⟨ra, rc, ev, hj3, hj4⟩ := row_form H3.out.1.row
        obtain ⟨E, hE⟩ : ∃ E, E = ps.length := ⟨_, rfl⟩
        rw [← hE] at ev
        have HE : Hid (E = ps.length) := hE
        subst ev
        have H5 : Hid (It12 LT w (w4.alloc (.cells #[.int .i64 x.err, .string x.path, .string x.data, .slice na nk nc, .int .i64 x.made, .int .i64 x.changed, .int .i64 x.ver, .int .i64 x.kids, .int .i64 x.owner, .int .i64 x.len, .int .i64 x.cnt] 75)) q t3 F F3 a b z (.slice ra E rc) ps ∧ Cb (w4.alloc (.cells #[.int .i64 x.err, .string x.path, .string x.data, .slice na nk nc, .int .i64 x.made, .int .i64 x.changed, .int .i64 x.ver, .int .i64 x.kids, .int .i64 x.owner, .int .i64 x.len, .int .i64 x.cnt] 75)) sb (xc x (.slice na nk nc)) 75 ∧ Om12 (w4.alloc (.cells #[.int .i64 x.err, .string x.path, .string x.data, .slice na nk nc, .int .i64 x.made, .int .i64 x.changed, .int .i64 x.ver, .int .i64 x.kids, .int .i64 x.owner, .int .i64 x.len, .int .i64 x.cnt] 75)) F3 (.slice (some ⟨g, bb, none⟩) n vc) os ∧ Sq (w4.alloc (.cells #[.int .i64 x.err, .string x.path, .string x.data, .slice na nk nc, .int .i64 x.made, .int .i64 x.changed, .int .i64 x.ver, .int .i64 x.kids, .int .i64 x.owner, .int .i64 x.len, .int .i64 x.cnt] 75)) (.slice na nk nc) x.names ∧ (x.names ≠ [] → ∀ k, (Value.slice na nk nc).ownBlock = some k → w.heap.size ≤ k ∧ ¬ F3 k ∧ k ≠ a ∧ k ≠ b ∧ (Value.slice ra E rc).ownBlock ≠ some k)) := by
          have hba := (Below.refl _ w4).alloc (Nat.le_refl _) (.cells #[.int .i64 x.err, .string x.path, .string x.data, .slice na nk nc, .int .i64 x.made, .int .i64 x.changed, .int .i64 x.ver, .int .i64 x.kids, .int .i64 x.owner, .int .i64 x.len, .int .i64 x.cnt] 75)
          exact ⟨H3.out.1.later HS.out.1 hba, by rw [hsb]; exact Cb.made w4 (xc x (.slice na nk nc)) _, H3.out.2.2.1.later hba, H3.out.2.2.2.1.below hba, H3.out.2.2.2.2⟩
        have HPL : Hid (ps.length = k) := by
          have e := congrArg List.length H1.out.2.1
          rw [List.length_map, Tq.says_len, List.length_take] at e
          have h2 := HN.out
          have e2 : ps.length = k := by omega
          exact e2
        clear hj3 hj4 hE
        go_wp2_with (first
          | (refine wpList_load_row rfl 75 _ rfl xb rfl 75 #[.int .i64 x.err, .string x.path, .string x.data, .slice na nk nc, .int .i64 x.made, .int .i64 x.changed, .int .i64 x.ver, .int .i64 x.kids, .int .i64 x.owner, .int .i64 x.len, .int .i64 x.cnt] (0, 0) _ H3.out.2.1 Tryz.underlying75 rfl (by kernel_rfl) ?_)
          | (at_builtin; rw [← hsb]; refine wpList_res12 rfl _ _ rfl w.heap.size (.slice ra E rc) ps (x, .slice na nk nc) sb (w4.alloc (.cells #[.int .i64 x.err, .string x.path, .string x.data, .slice na nk nc, .int .i64 x.made, .int .i64 x.changed, .int .i64 x.ver, .int .i64 x.kids, .int .i64 x.owner, .int .i64 x.len, .int .i64 x.cnt] 75)) rfl rfl H5.out.1.row H5.out.1.mv.size H5.out.2.1 (by have := HPL.out; omega) rfl ?_))
        clear hsb d4
        have HW5 : Hid ((w4.alloc (.cells #[.int .i64 x.err, .string x.path, .string x.data, .slice na nk nc, .int .i64 x.made, .int .i64 x.changed, .int .i64 x.ver, .int .i64 x.kids, .int .i64 x.owner, .int .i64 x.len, .int .i64 x.cnt] 75)).heap.size = w4.heap.size + 1) := World.size_alloc _ _
        generalize (w4.alloc (.cells #[.int .i64 x.err, .string x.path, .string x.data, .slice na nk nc, .int .i64 x.made, .int .i64 x.changed, .int .i64 x.ver, .int .i64 x.kids, .int .i64 x.owner, .int .i64 x.len, .int .i64 x.cnt] 75)) = w5 at *
        intro v6 w6 hr6 hg6 hv6
        rw [← HW5.out] at hv6
        have H6 : Hid (It12 LT w (w6.setCell ⟨b, 4, none⟩ v6) q t3 F F3 a b z v6 (ps ++ [(x, .slice na nk nc)]) ∧ Om12 (w6.setCell ⟨b, 4, none⟩ v6) F3 (.slice (some ⟨g, bb, none⟩) n vc) os ∧ Cb w6 b [.int .i64 0, .int .i64 z, .int .i64 0, .int .i64 (-1), .slice ra E rc] 37) := by
          have hbv := H5.out.1.told.cb.apart H5.out.1.row (by decide)
          have hg2 := grownBy_setCell w6 ⟨b, 4, none⟩ v6
          refine ⟨H5.out.1.push HS.out.1 hg6 (by rw [List.length_append]; exact hr6) hv6 ⟨⟨_, _, _, rfl⟩, H5.out.2.2.2.1, H5.out.2.2.2.2⟩, H5.out.2.2.1.keep (fun k hk hl => ?_) H5.out.2.2.1.off, H5.out.1.told.cb.keep (hg6.block b H5.out.1.told.cb.lt (fun e => hbv e.symm))⟩
          have h1 := HVB.out (fun e => by have h := HK.out; rw [e] at h; simp at h) k hk
          have h2 := H5.out.1.hb
          exact (hg2.block k (Nat.lt_of_lt_of_le hl hg6.size) (fun e => by simp at e; omega)).trans (hg6.block k hl (fun e => by have := (H5.out.1.row.lt k e.symm).1; omega))
        obtain ⟨ra6, rc6, ev6, hj5, hj6⟩ := row_form hr6
        obtain ⟨E6, hE6⟩ : ∃ z, z = ps.length + 1 := ⟨_, rfl⟩
        rw [← hE6] at ev6
        subst ev6
        clear hr6 hg6 hv6 hj5 hj6 hE6 H5
        have d4 : w6.cell? ⟨b, 4, none⟩ = some (.slice ra E rc) := (H6.out.2.2.cell 4).trans rfl
        have f4 := H6.out.2.2.free 4
        have HST : Hid (Tq.after t s z (os.take (k + 1)) = t3 ∧ Tq.says t s z (os.take (k + 1)) = Tq.says t s z (os.take k) ++ [x] ∧ Tq.bad t s z (os.take (k + 1)) = none) := by
          have e : os.take (k + 1) = os.take k ++ [o] := by rw [List.take_add_one, HK.out]; rfl
          have e2 := HX.out
          rw [HT1.out] at e2
          rw [e, Tq.after_snoc, Tq.says_snoc, e2]
          exact ⟨rfl, rfl, Tq.bad_none H1.out.2.2.1 (by rw [e2]; exact HZ.out)⟩
        go_wp2
        clear d4 f4
        generalize w6.setCell ⟨b, 4, none⟩ (.slice ra6 E6 rc6) = w7 at *
        go_roundw
        case rel => exact ⟨k + 1, F3, _, _, by omega, by go_num, by rw [HST.out.1]; exact H6.out.1, by rw [HST.out.2.1, List.map_append, H1.out.2.1]; rfl, HST.out.2.2, H6.out.2.1⟩
        case measure => simp [intOf]; omega
      · have hzb : (x.err != 0) = true := by simp [hz]
        have HTS : Hid (T = ((Rq.fail 0 x.err (k : Int) (n : Int), false), t1) ∧ t3 = t1) := by
          have e : os = os.take k ++ o :: os.drop (k + 1) := by
            have h := List.take_append_drop k os
            rw [List.drop_eq_getElem?_toList_append, HK.out] at h
            exact h.symm
          have e2 := HX.out
          rw [HT1.out] at e2
          have e3 : (os.take k).length = k := by rw [List.length_take, ← HN.out]; omega
          have hb := Tq.bad_some (o := o) H1.out.2.2.1 (by rw [e2]; exact hz) (os.drop (k + 1))
          rw [← e, e2, e3] at hb
          refine ⟨?_, ?_⟩
          · rw [HT.out, Tq.turn_some hb, HT1.out, HN.out]
          · rcases Tq.doo_ok HX.out with h | h
            · exact h.2
            · exact absurd h.1 hz
        clear hz
        go_wp2_with fail
        clear e0 hzb
        refine (fail_any12 0 x.err (k : Int) (n : Int) w4 (by omega) (by omega)).mono ?_
        rintro e w5 ⟨u, rfl, ⟨hrl, hnw⟩, hb5⟩
        have hrl2 := hrl
        obtain ⟨ua, uk, uc, rfl, hj1, hj2⟩ := hrl
        have H5 : Hid (It12 LT w w5 q t3 F F3 a b z v ps ∧ Rn12 w.heap.size F3 w5 (.slice ua uk uc) (Rq.fail 0 x.err (k : Int) (n : Int)).xs ∧ ∀ k, (Value.slice ua uk uc).ownBlock = some k → k ≠ a) := by
          have h1 := H3.out.1.ans.cb.lt
          have h2 := H3.out.1.mv.size
          refine ⟨H3.out.1.later HS.out.1 hb5, (Rn12.bare hrl2 hnw (fail_bare _ _ _ _) (fun k hk => HS.out.1.lt H3.out.1.ld hk)).low h2, fun k hk => by have := hnw k hk; omega⟩
        clear hrl2 hnw hb5 hj1 hj2
        unfold rpv Rq.fail
        simp only []
        go_wp2_with (refine wpList_store_row rfl 37 _ _ rfl a ([.int .i64 0, .int .i64 0, .int .i64 x.err, .int .i64 (k : Int), .slice ua uk uc] : List Value).toArray rfl rfl 37 _ H5.out.1.ans.cb (by kernel_rfl) rfl (by kernel_rfl) ?_)
        have H9 := H5.out.1.fin HS.out.1 ([.int .i64 0, .int .i64 0, .int .i64 x.err, .int .i64 (k : Int), .slice ua uk uc] : List Value).toArray
        have hR9 : Rn12 w.heap.size F3 (w5.setRow a ([.int .i64 0, .int .i64 0, .int .i64 x.err, .int .i64 (k : Int), .slice ua uk uc] : List Value).toArray) (.slice ua uk uc) (Rq.fail 0 x.err (k : Int) (n : Int)).xs := by
          obtain ⟨av, kk, c, hv, hj, hc, hn, hs⟩ := H5.out.2.1
          refine ⟨av, kk, c, hv, hj, hc, hn, fun j y hy => ?_⟩
          obtain ⟨g', b', nv', h1, h2, h3, h4, h5⟩ := hs j y hy
          have hga : g' ≠ a := H5.out.2.2 g' (by rw [hv, h1]; rfl)
          exact ⟨g', b', nv', h1, h2, sq_keep12 h3 (fun hne => absurd (fail_bare _ _ _ _ y (List.mem_of_getElem? hy)) hne), h4, fun i u hu => (World.cell?_of_block (setRow_other w5 a g' _ hga)).trans (h5 i u hu)⟩
        refine bodyPost_ret (v := .tuple #[.agg ([.int .i64 0, .int .i64 0, .int .i64 x.err, .int .i64 (k : Int), .slice ua uk uc] : List Value).toArray, .bool false]) ?_ rfl ⟨F3, .slice ua uk uc, by rw [HTS.out.1]; rfl, by rw [HTS.out.1]; exact hR9, by rw [HTS.out.1]; exact HTS.out.2 ▸ H9.2.1, H9.2.2⟩
        exact (results_cell_tmp11 (p := 8) (s := 9) rfl _ _ a 37 _ (0, 0) _ rfl (H5.out.1.ans.cb.rowed [.int .i64 0, .int .i64 0, .int .i64 x.err, .int .i64 (k : Int), .slice ua uk uc]) Tryz.underlying37 rfl (by kernel_rfl)).trans rfl
    · have hlt' : ¬ (k : Int) < (n : Int) := by omega
      have HTN : Hid (T = ((⟨0, z, 0, -1, ps.map (·.1)⟩, true), Tq.after t s z (os.take k))) := by
        have e : os.take k = os := List.take_of_length_le (by rw [← HN.out]; omega)
        have h := H1.out
        rw [e] at h
        have e2 : T = ((⟨0, z, 0, -1, ps.map (·.1)⟩, true), Tq.after t s z (os.take k)) := by rw [HT.out, Tq.turn_none h.2.2.1, e, h.2.1]
        exact e2
      obtain ⟨ra, rc, ev, hj3, hj4⟩ := row_form H1.out.1.row
      obtain ⟨E, hE⟩ : ∃ E, E = ps.length := ⟨_, rfl⟩
      rw [← hE] at ev
      subst ev
      clear hj3 hj4 hE
      go_wp2_with (first
        | (refine wpList_load_row rfl 37 _ rfl b rfl 37 ([.int .i64 0, .int .i64 z, .int .i64 0, .int .i64 (-1), .slice ra E rc] : List Value).toArray (0, 0) _ H1.out.1.told.cb Tryz.underlying37 rfl (by kernel_rfl) ?_)
        | (refine wpList_store_row rfl 37 _ _ rfl a ([.int .i64 0, .int .i64 z, .int .i64 0, .int .i64 (-1), .slice ra E rc] : List Value).toArray rfl rfl 37 _ H1.out.1.ans.cb (by kernel_rfl) rfl (by kernel_rfl) ?_))
      have H9 := H1.out.1.fin HS.out.1 ([.int .i64 0, .int .i64 z, .int .i64 0, .int .i64 (-1), .slice ra E rc] : List Value).toArray
      refine bodyPost_ret (v := .tuple #[.agg ([.int .i64 0, .int .i64 z, .int .i64 0, .int .i64 (-1), .slice ra E rc] : List Value).toArray, .bool true]) ?_ rfl ⟨F1, .slice ra E rc, by rw [HTN.out]; rfl, by rw [HTN.out]; exact H9.1, by rw [HTN.out]; exact H9.2.1, H9.2.2⟩
      exact (results_cell_tmp11 (p := 8) (s := 9) rfl _ _ a 37 _ (0, 0) _ rfl (H1.out.1.ans.cb.rowed [.int .i64 0, .int .i64 z, .int .i64 0, .int .i64 (-1), .slice ra E rc]) Tryz.underlying37 rfl (by kernel_rfl)).trans rfl
end Go.Proofs.YtboejbjobjhajaaGreatDoor
namespace Go.Proofs.YtboejbjobjhajaaGreatDoor.Tq
theorem many_long {t : Tr} {s z : Int} {os : List O} (h : 16 < os.length) : many t s z os = ((Rq.fail 0 2 (-1) 0, false), t) := by unfold many; rw [if_pos h]
theorem many_nil {t : Tr} {s z : Int} {os : List O} (h : os.length = 0) : many t s z os = ((Rq.fail 0 1 (-1) 0, false), t) := by unfold many; rw [if_neg (by omega), if_pos h]
theorem many_no {t : Tr} {s z : Int} {os : List O} (h1 : os.length ≤ 16) (h0 : os.length ≠ 0) (hb : (turn t s z os).1.2 = false) : many t s z os = ((turn t s z os).1, t) := by unfold many; rw [if_neg (by omega), if_neg h0, hb]; rfl
theorem many_yes {t : Tr} {s z : Int} {os : List O} (h1 : os.length ≤ 16) (h0 : os.length ≠ 0) (hb : (turn t s z os).1.2 = true) : many t s z os = turn t s z os := by unfold many; rw [if_neg (by omega), if_neg h0, hb]; rfl
theorem many_one {t : Tr} {s z : Int} {os : List O} (h1 : os.length = 1) : many t s z os = turn t s z os := by
  cases hb : (turn t s z os).1.2 with
  | true => exact many_yes (by omega) (by omega) hb
  | false =>
    rw [many_no (by omega) (by omega) hb]
    cases hk : bad t s z os with
    | none => rw [turn_none hk] at hb; cases hb
    | some k =>
      rw [turn_some hk]
      have := bad_lt hk
      rw [show k.1 = 0 by omega]
      rfl
end Go.Proofs.YtboejbjobjhajaaGreatDoor.Tq
namespace Go.Proofs.YtboejbjobjhajaaGreatDoor
open Go.RowKit
theorem fin12 {LT : Rep11} (S : Specs11 LT) {W w : World} {q a B : Nat} {t : Tq.Tr} {F F' : Nat → Prop} {u : Value} {xs : List X} (hl : LT w q t F') (hr : Rn12 B F' w u xs) (hB : a < B) (ha : W.heap.size ≤ a) (haF : ¬ F' a) (hm : Moved W w F F') (ds : Array Value) :
    Rn12 W.heap.size F' (w.setRow a ds) u xs ∧ LT (w.setRow a ds) q t F' ∧ Moved W (w.setRow a ds) F F' :=
  ⟨(hr.keep (w' := w.setRow a ds) (fun k hk hF _ => ⟨setRow_other w a k ds (by omega), hF⟩)).low (by omega), S.keep hl (fun k hk => setRow_other w a k ds (fun e => haF (e ▸ hk))), ⟨hm.os, hm.tape, hm.output, by rw [setRow_size]; exact hm.size, fun k hk hF => (setRow_other w a k ds (by omega)).trans (hm.block k hk hF), hm.sub⟩⟩
set_option maxRecDepth 20000 in
set_option maxHeartbeats 8000000 in
theorem many_any12 {LT : Rep11} (S : Specs11 LT) (D : SpecD12 LT) (q : Nat) (t : Tq.Tr) (F : Nat → Prop) (s z : Int) (v : Value) (os : List O) (m : Nat) (w : World) (hL : LT w q t F) (hf : Fine11 t) (hk : Tq.Few t m) (hm : m ≤ 883) (h6 : ∀ k, F k → 6 ≤ k) (hS : Pa.Std w) (hO : Om12 w F v os) (hok : ∀ o ∈ os, OFit o) (hn : os.length ≤ 9223372036854775807) :
    Calls Tryz.prog 46 #[dptr q, .int .i64 s, .int .i64 z, v] w fun e w' => ∃ F' u, e = .returned (.tuple #[rpv (Tq.many t s z os).1.1 u, .bool (Tq.many t s z os).1.2]) ∧ Rn12 w.heap.size F' w' u (Tq.many t s z os).1.1.xs ∧ LT w' q (Tq.many t s z os).2 F' ∧ Moved w w' F F' := by
  obtain ⟨T, hT⟩ : ∃ T, T = Tq.many t s z os := ⟨_, rfl⟩
  rw [← hT]
  have HT : Hid (T = Tq.many t s z os) := hT
  have HS : Hid (Specs11 LT ∧ SpecD12 LT ∧ Fine11 t ∧ Tq.Few t m ∧ m ≤ 883 ∧ (∀ k, F k → 6 ≤ k) ∧ Pa.Std w ∧ (∀ o ∈ os, OFit o)) := ⟨S, D, hf, hk, hm, h6, hS, hok⟩
  have HVB : Hid (os ≠ [] → ∀ k, v.ownBlock = some k → k < w.heap.size) := fun hne k hk => hO.lt hne hk
  have HFW : Hid (∀ k, F k → k < w.heap.size) := fun k hk => S.lt hL hk
  have hOl := hO.ol
  obtain ⟨va, n, vc, rfl, hnn, hjj⟩ := hOl
  have HN : Hid (n = os.length) := hnn
  have hn1 : n ≤ 9223372036854775807 := by omega
  obtain ⟨a, ha⟩ : ∃ a, a = w.heap.size := ⟨_, rfl⟩
  have H0 : Hid (LT (w.alloc (.cells #[.int .i64 0, .int .i64 0, .int .i64 0, .int .i64 0, .slice none 0 0] 37)) q t F ∧ Below w.heap.size w (w.alloc (.cells #[.int .i64 0, .int .i64 0, .int .i64 0, .int .i64 0, .slice none 0 0] 37)) ∧ Kept11 (w.alloc (.cells #[.int .i64 0, .int .i64 0, .int .i64 0, .int .i64 0, .slice none 0 0] 37)) F a [.int .i64 0, .int .i64 0, .int .i64 0, .int .i64 0, .slice none 0 0] 37 ∧ Om12 (w.alloc (.cells #[.int .i64 0, .int .i64 0, .int .i64 0, .int .i64 0, .slice none 0 0] 37)) F (.slice va n vc) os) := by
    have hba := (Below.refl _ w).alloc (Nat.le_refl _) (.cells #[.int .i64 0, .int .i64 0, .int .i64 0, .int .i64 0, .slice none 0 0] 37)
    exact ⟨S.keep hL (fun k hk => hba.block k (S.lt hL hk)), hba, by rw [ha]; exact Kept11.made w F (fun k hk => S.lt hL hk) [.int .i64 0, .int .i64 0, .int .i64 0, .int .i64 0, .slice none 0 0] _, hO.later hba⟩
  have HA : Hid (w.heap.size ≤ a ∧ a < (w.alloc (.cells #[.int .i64 0, .int .i64 0, .int .i64 0, .int .i64 0, .slice none 0 0] 37)).heap.size) := ⟨by omega, by rw [World.size_alloc]; omega⟩
  clear S D hf hk hm h6 hS hok hjj hnn hO hL hT hn
  unfold dptr
  go_enter Tryz.func46, Tryz.ntmps46
  go_upto_region 1 with fail
  rw [← ha]
  clear ha
  generalize (w.alloc (.cells #[.int .i64 0, .int .i64 0, .int .i64 0, .int .i64 0, .slice none 0 0] 37)) = w0 at *
  by_cases h16 : 16 < n
  · have h16' : (16 : Int) < (n : Int) := by omega
    have HM : Hid (T = ((Rq.fail 0 2 (-1) 0, false), t)) := by
      have e : T = ((Rq.fail 0 2 (-1) 0, false), t) := by rw [HT.out]; exact Tq.many_long (by have := HN.out; omega)
      exact e
    go_wp2_with fail
    refine (fail_any12 0 2 (-1) 0 w0 (by decide) (by decide)).mono ?_
    rintro e w5 ⟨u, rfl, ⟨hrl, hnw⟩, hb⟩
    obtain ⟨r, hr0⟩ : ∃ r, r = Rq.fail 0 2 (-1) 0 := ⟨_, rfl⟩
    rw [← hr0] at hrl ⊢
    obtain ⟨F5, hF5⟩ : ∃ F5, F5 = F := ⟨_, rfl⟩
    have hrn : Rn12 w0.heap.size F5 w5 u r.xs := by rw [hF5]; exact Rn12.bare hrl hnw (by rw [hr0]; exact fail_bare _ _ _ _) (fun k hk => HS.out.1.lt H0.out.1 hk)
    have hl5 : LT w5 q T.2 F5 := by rw [hF5, HM.out]; exact HS.out.1.keep H0.out.1 (fun k hk => hb.block k (HS.out.1.lt H0.out.1 hk))
    have hm5 : Moved w w5 F F5 := by rw [hF5]; exact Moved.of_below F (H0.out.2.1.trans (hb.mono H0.out.2.1.size))
    have hk5 := H0.out.2.2.1.later hb
    rw [← hF5] at hk5
    have hb5 : T.1.2 = false := by rw [HM.out]
    have hr5 : r = T.1.1 := by rw [hr0, HM.out]
    clear hrl hnw hb hF5 hr0
    have hns := hrn
    obtain ⟨ua, uk, uc, rfl, hj1, hj2⟩ := hns
    have H5 : Hid (Rn12 w0.heap.size F5 w5 (.slice ua uk uc) r.xs ∧ LT w5 q T.2 F5 ∧ Moved w w5 F F5 ∧ Kept11 w5 F5 a [.int .i64 0, .int .i64 0, .int .i64 0, .int .i64 0, .slice none 0 0] 37 ∧ r = T.1.1 ∧ T.1.2 = false) := ⟨hrn, hl5, hm5, hk5, hr5, hb5⟩
    clear hrn hl5 hm5 hk5 hr5 hb5 hj1 hj2
    unfold rpv
    go_wp2_with (refine wpList_store_row rfl 37 _ _ rfl a ([.int .i64 r.num, .int .i64 r.zxid, .int .i64 r.err, .int .i64 r.at_, .slice ua uk uc] : List Value).toArray rfl rfl 37 _ H5.out.2.2.2.1.cb (by kernel_rfl) rfl (by kernel_rfl) ?_)
    have H9 := fin12 HS.out.1 H5.out.2.1 H5.out.1 HA.out.2 HA.out.1 H5.out.2.2.2.1.off H5.out.2.2.1 ([.int .i64 r.num, .int .i64 r.zxid, .int .i64 r.err, .int .i64 r.at_, .slice ua uk uc] : List Value).toArray
    (try simp only [Exit.inBlock, Exit.then])
    refine bodyPost_ret (v := .tuple #[.agg ([.int .i64 r.num, .int .i64 r.zxid, .int .i64 r.err, .int .i64 r.at_, .slice ua uk uc] : List Value).toArray, .bool false]) ?_ rfl ⟨F5, .slice ua uk uc, by rw [H5.out.2.2.2.2.2, ← H5.out.2.2.2.2.1]; rfl, by rw [← H5.out.2.2.2.2.1]; exact H9.1, H9.2.1, H9.2.2⟩
    exact (results_cell_tmp11 (p := 8) (s := 9) rfl _ _ a 37 _ (0, 0) _ rfl (H5.out.2.2.2.1.cb.rowed [.int .i64 r.num, .int .i64 r.zxid, .int .i64 r.err, .int .i64 r.at_, .slice ua uk uc]) Tryz.underlying37 rfl (by kernel_rfl)).trans rfl
  have h16' : ¬ (16 : Int) < (n : Int) := by omega
  by_cases h0 : n = 0
  · have HM : Hid (T = ((Rq.fail 0 1 (-1) 0, false), t)) := by
      have e : T = ((Rq.fail 0 1 (-1) 0, false), t) := by rw [HT.out]; exact Tq.many_nil (by have := HN.out; omega)
      exact e
    have h0' : ((n : Int) == 0) = true := by simp [h0]
    clear h0
    go_wp2_with fail
    refine (fail_any12 0 1 (-1) 0 w0 (by decide) (by decide)).mono ?_
    rintro e w5 ⟨u, rfl, ⟨hrl, hnw⟩, hb⟩
    obtain ⟨r, hr0⟩ : ∃ r, r = Rq.fail 0 1 (-1) 0 := ⟨_, rfl⟩
    rw [← hr0] at hrl ⊢
    obtain ⟨F5, hF5⟩ : ∃ F5, F5 = F := ⟨_, rfl⟩
    have hrn : Rn12 w0.heap.size F5 w5 u r.xs := by rw [hF5]; exact Rn12.bare hrl hnw (by rw [hr0]; exact fail_bare _ _ _ _) (fun k hk => HS.out.1.lt H0.out.1 hk)
    have hl5 : LT w5 q T.2 F5 := by rw [hF5, HM.out]; exact HS.out.1.keep H0.out.1 (fun k hk => hb.block k (HS.out.1.lt H0.out.1 hk))
    have hm5 : Moved w w5 F F5 := by rw [hF5]; exact Moved.of_below F (H0.out.2.1.trans (hb.mono H0.out.2.1.size))
    have hk5 := H0.out.2.2.1.later hb
    rw [← hF5] at hk5
    have hb5 : T.1.2 = false := by rw [HM.out]
    have hr5 : r = T.1.1 := by rw [hr0, HM.out]
    clear hrl hnw hb hF5 hr0
    have hns := hrn
    obtain ⟨ua, uk, uc, rfl, hj1, hj2⟩ := hns
    have H5 : Hid (Rn12 w0.heap.size F5 w5 (.slice ua uk uc) r.xs ∧ LT w5 q T.2 F5 ∧ Moved w w5 F F5 ∧ Kept11 w5 F5 a [.int .i64 0, .int .i64 0, .int .i64 0, .int .i64 0, .slice none 0 0] 37 ∧ r = T.1.1 ∧ T.1.2 = false) := ⟨hrn, hl5, hm5, hk5, hr5, hb5⟩
    clear hrn hl5 hm5 hk5 hr5 hb5 hj1 hj2
    unfold rpv
    go_wp2_with (refine wpList_store_row rfl 37 _ _ rfl a ([.int .i64 r.num, .int .i64 r.zxid, .int .i64 r.err, .int .i64 r.at_, .slice ua uk uc] : List Value).toArray rfl rfl 37 _ H5.out.2.2.2.1.cb (by kernel_rfl) rfl (by kernel_rfl) ?_)
    have H9 := fin12 HS.out.1 H5.out.2.1 H5.out.1 HA.out.2 HA.out.1 H5.out.2.2.2.1.off H5.out.2.2.1 ([.int .i64 r.num, .int .i64 r.zxid, .int .i64 r.err, .int .i64 r.at_, .slice ua uk uc] : List Value).toArray
    (try simp only [Exit.inBlock, Exit.then])
    refine bodyPost_ret (v := .tuple #[.agg ([.int .i64 r.num, .int .i64 r.zxid, .int .i64 r.err, .int .i64 r.at_, .slice ua uk uc] : List Value).toArray, .bool false]) ?_ rfl ⟨F5, .slice ua uk uc, by rw [H5.out.2.2.2.2.2, ← H5.out.2.2.2.2.1]; rfl, by rw [← H5.out.2.2.2.2.1]; exact H9.1, H9.2.1, H9.2.2⟩
    exact (results_cell_tmp11 (p := 8) (s := 9) rfl _ _ a 37 _ (0, 0) _ rfl (H5.out.2.2.2.1.cb.rowed [.int .i64 r.num, .int .i64 r.zxid, .int .i64 r.err, .int .i64 r.at_, .slice ua uk uc]) Tryz.underlying37 rfl (by kernel_rfl)).trans rfl
  have h0' : ((n : Int) == 0) = false := by simp; omega
  have HTC : Hid (∀ (q' : Nat) (F' : Nat → Prop) (w' : World), LT w' q' t F' → (∀ k, F' k → 6 ≤ k) → Pa.Std w' → Om12 w' F' (.slice va n vc) os → Calls Tryz.prog 94 #[dptr q', .int .i64 s, .int .i64 z, .slice va n vc] w' fun e w'' => ∃ F'' u, e = .returned (.tuple #[rpv (Tq.turn t s z os).1.1 u, .bool (Tq.turn t s z os).1.2]) ∧ Rn12 w'.heap.size F'' w'' u (Tq.turn t s z os).1.1.xs ∧ LT w'' q' (Tq.turn t s z os).2 F'' ∧ Moved w' w'' F' F'') := fun q' F' w' h1 h2 h3 h4 => turn_any12 HS.out.1 HS.out.2.1 q' t F' s z (.slice va n vc) os m w' h1 HS.out.2.2.1 HS.out.2.2.2.1 (by have := HN.out; have := HS.out.2.2.2.2.1; omega) h2 h3 h4 HS.out.2.2.2.2.2.2.2 (by have := HN.out; omega)
  unfold dptr at HTC
  by_cases h1 : 1 < n
  · have h1' : (1 : Int) < (n : Int) := by omega
    go_wp2_with fail
    refine (HS.out.1.copy q t F w0 H0.out.1 HS.out.2.2.1).mono ?_
    rintro e w1 ⟨q2, F2, rfl, hl2, hF2, hl1, hb1⟩
    have H1 : Hid (LT w1 q2 t F2 ∧ (∀ k, F2 k → w0.heap.size ≤ k) ∧ LT w1 q t F ∧ Below w0.heap.size w0 w1) := ⟨hl2, hF2, hl1, hb1⟩
    clear hl2 hF2 hl1 hb1
    unfold dptr
    go_wp2_with fail
    refine (HTC.out q2 F2 w1 H1.out.1 (fun k hk => by have h1 := H1.out.2.1 k hk; have h2 := HS.out.2.2.2.2.2.2.1.size; have h3 := H0.out.2.1.size; omega) (HS.out.2.2.2.2.2.2.1.below (H0.out.2.1.trans (H1.out.2.2.2.mono H0.out.2.1.size))) (H0.out.2.2.2.keep (fun k _ hl => H1.out.2.2.2.block k hl) (fun hne k hk e => by have h1 := H1.out.2.1 k e; have h2 := HVB.out hne k hk; have h3 := H0.out.2.1.size; omega))).mono ?_
    obtain ⟨r, B2, t2, hrt⟩ : ∃ r B2 t2, Tq.turn t s z os = ((r, B2), t2) := ⟨_, _, _, rfl⟩
    rw [hrt]
    rintro e w2 ⟨F3, u, rfl, hrn, hl3, hmv⟩
    have HRT : Hid (Tq.turn t s z os = ((r, B2), t2)) := hrt
    have hns := hrn
    obtain ⟨ua, uk, uc, rfl, hj1, hj2⟩ := hns
    obtain ⟨rb, hrb⟩ : ∃ z, z = w2.heap.size := ⟨_, rfl⟩
    have H2 : Hid (LT (w2.alloc (.cells #[.int .i64 r.num, .int .i64 r.zxid, .int .i64 r.err, .int .i64 r.at_, .slice ua uk uc] 37)) q t F ∧ Below w0.heap.size w0 (w2.alloc (.cells #[.int .i64 r.num, .int .i64 r.zxid, .int .i64 r.err, .int .i64 r.at_, .slice ua uk uc] 37)) ∧ Kept11 (w2.alloc (.cells #[.int .i64 r.num, .int .i64 r.zxid, .int .i64 r.err, .int .i64 r.at_, .slice ua uk uc] 37)) F a [.int .i64 0, .int .i64 0, .int .i64 0, .int .i64 0, .slice none 0 0] 37 ∧ Om12 (w2.alloc (.cells #[.int .i64 r.num, .int .i64 r.zxid, .int .i64 r.err, .int .i64 r.at_, .slice ua uk uc] 37)) F (.slice va n vc) os ∧ Rn12 w0.heap.size F (w2.alloc (.cells #[.int .i64 r.num, .int .i64 r.zxid, .int .i64 r.err, .int .i64 r.at_, .slice ua uk uc] 37)) (.slice ua uk uc) r.xs ∧ Cb (w2.alloc (.cells #[.int .i64 r.num, .int .i64 r.zxid, .int .i64 r.err, .int .i64 r.at_, .slice ua uk uc] 37)) rb [.int .i64 r.num, .int .i64 r.zxid, .int .i64 r.err, .int .i64 r.at_, .slice ua uk uc] 37) := by
      have hba := (Below.refl _ w2).alloc (Nat.le_refl _) (.cells #[.int .i64 r.num, .int .i64 r.zxid, .int .i64 r.err, .int .i64 r.at_, .slice ua uk uc] 37)
      have hb2 : Below w0.heap.size w1 w2 := hmv.below H1.out.2.2.2.size H1.out.2.1
      have hb3 : Below w0.heap.size w0 w2 := H1.out.2.2.2.trans hb2
      have hb4 := hb3.trans (hba.mono hb3.size)
      have hs0 := H0.out.2.1.size
      refine ⟨HS.out.1.keep H0.out.1 (fun k hk => hb4.block k (HS.out.1.lt H0.out.1 hk)), hb4, H0.out.2.2.1.later hb4, H0.out.2.2.2.later hb4, ?_, by rw [hrb]; exact Cb.made w2 _ _⟩
      refine ((hrn.low H1.out.2.2.2.size).keep (fun k hk _ hl => ⟨rfl, fun e => ?_⟩) : Rn12 w0.heap.size F w2 _ _).later hba
      have := HFW.out k e
      omega
    clear hrn hl3 hmv hj1 hj2 hrt H1
    unfold rpv
    go_upto_region 7 with fail
    rw [← hrb]
    clear hrb
    generalize (w2.alloc (.cells #[.int .i64 r.num, .int .i64 r.zxid, .int .i64 r.err, .int .i64 r.at_, .slice ua uk uc] 37)) = w3 at *
    cases B2 with
    | false =>
      have HM : Hid (T = ((r, false), t)) := by
        have e : T = ((r, false), t) := by rw [HT.out, Tq.many_no (by have := HN.out; omega) (by have := HN.out; omega) (by rw [HRT.out]), HRT.out]
        exact e
      have H5 : Hid (Rn12 w0.heap.size F w3 (.slice ua uk uc) r.xs ∧ LT w3 q T.2 F ∧ Moved w w3 F F ∧ Kept11 w3 F a [.int .i64 0, .int .i64 0, .int .i64 0, .int .i64 0, .slice none 0 0] 37 ∧ r = T.1.1 ∧ T.1.2 = false) := ⟨H2.out.2.2.2.2.1, by rw [HM.out]; exact H2.out.1, Moved.of_below F (H0.out.2.1.trans (H2.out.2.1.mono H0.out.2.1.size)), H2.out.2.2.1, by rw [HM.out], by rw [HM.out]⟩
      go_wp2_with (first
        | (refine wpList_load_row rfl 37 _ rfl rb rfl 37 ([.int .i64 r.num, .int .i64 r.zxid, .int .i64 r.err, .int .i64 r.at_, .slice ua uk uc] : List Value).toArray (0, 0) _ H2.out.2.2.2.2.2 Tryz.underlying37 rfl (by kernel_rfl) ?_)
        | (refine wpList_store_row rfl 37 _ _ rfl a ([.int .i64 r.num, .int .i64 r.zxid, .int .i64 r.err, .int .i64 r.at_, .slice ua uk uc] : List Value).toArray rfl rfl 37 _ H5.out.2.2.2.1.cb (by kernel_rfl) rfl (by kernel_rfl) ?_))
      have H9 := fin12 HS.out.1 H5.out.2.1 H5.out.1 HA.out.2 HA.out.1 H5.out.2.2.2.1.off H5.out.2.2.1 ([.int .i64 r.num, .int .i64 r.zxid, .int .i64 r.err, .int .i64 r.at_, .slice ua uk uc] : List Value).toArray
      (try simp only [Exit.inBlock, Exit.then])
      refine bodyPost_ret (v := .tuple #[.agg ([.int .i64 r.num, .int .i64 r.zxid, .int .i64 r.err, .int .i64 r.at_, .slice ua uk uc] : List Value).toArray, .bool false]) ?_ rfl ⟨F, .slice ua uk uc, by rw [H5.out.2.2.2.2.2, ← H5.out.2.2.2.2.1]; rfl, by rw [← H5.out.2.2.2.2.1]; exact H9.1, H9.2.1, H9.2.2⟩
      exact (results_cell_tmp11 (p := 8) (s := 9) rfl _ _ a 37 _ (0, 0) _ rfl (H5.out.2.2.2.1.cb.rowed [.int .i64 r.num, .int .i64 r.zxid, .int .i64 r.err, .int .i64 r.at_, .slice ua uk uc]) Tryz.underlying37 rfl (by kernel_rfl)).trans rfl
    | true =>
      have HM : Hid (T = ((r, true), t2)) := by
        have e : T = ((r, true), t2) := by rw [HT.out, Tq.many_yes (by have := HN.out; omega) (by have := HN.out; omega) (by rw [HRT.out]), HRT.out]
        exact e
      go_wp2_with fail
      refine (HTC.out q F w3 H2.out.1 HS.out.2.2.2.2.2.1 (HS.out.2.2.2.2.2.2.1.below (H0.out.2.1.trans (H2.out.2.1.mono H0.out.2.1.size))) H2.out.2.2.2.1).mono ?_
      rw [HRT.out]
      rintro e w5 ⟨F5, u5, rfl, hrn, hl5, hm5⟩
      have hk5 := H2.out.2.2.1.moved hm5
      have hrn := hrn.low H2.out.2.1.size
      have hl5 : LT w5 q T.2 F5 := by rw [HM.out]; exact hl5
      have hm5 : Moved w w5 F F5 := (Moved.of_below F (H0.out.2.1.trans (H2.out.2.1.mono H0.out.2.1.size))).trans hm5
      have hb5 : T.1.2 = true := by rw [HM.out]
      have hr5 : r = T.1.1 := by rw [HM.out]
      simp only [] at hrn ⊢
      clear H2
      have hns := hrn
      obtain ⟨ua, uk, uc, rfl, hj1, hj2⟩ := hns
      have H5 : Hid (Rn12 w0.heap.size F5 w5 (.slice ua uk uc) r.xs ∧ LT w5 q T.2 F5 ∧ Moved w w5 F F5 ∧ Kept11 w5 F5 a [.int .i64 0, .int .i64 0, .int .i64 0, .int .i64 0, .slice none 0 0] 37 ∧ r = T.1.1 ∧ T.1.2 = true) := ⟨hrn, hl5, hm5, hk5, hr5, hb5⟩
      clear hrn hl5 hm5 hk5 hr5 hb5 hj1 hj2
      unfold rpv
      go_wp2_with (refine wpList_store_row rfl 37 _ _ rfl a ([.int .i64 r.num, .int .i64 r.zxid, .int .i64 r.err, .int .i64 r.at_, .slice ua uk uc] : List Value).toArray rfl rfl 37 _ H5.out.2.2.2.1.cb (by kernel_rfl) rfl (by kernel_rfl) ?_)
      have H9 := fin12 HS.out.1 H5.out.2.1 H5.out.1 HA.out.2 HA.out.1 H5.out.2.2.2.1.off H5.out.2.2.1 ([.int .i64 r.num, .int .i64 r.zxid, .int .i64 r.err, .int .i64 r.at_, .slice ua uk uc] : List Value).toArray
      (try simp only [Exit.inBlock, Exit.then])
      refine bodyPost_ret (v := .tuple #[.agg ([.int .i64 r.num, .int .i64 r.zxid, .int .i64 r.err, .int .i64 r.at_, .slice ua uk uc] : List Value).toArray, .bool true]) ?_ rfl ⟨F5, .slice ua uk uc, by rw [H5.out.2.2.2.2.2, ← H5.out.2.2.2.2.1]; rfl, by rw [← H5.out.2.2.2.2.1]; exact H9.1, H9.2.1, H9.2.2⟩
      exact (results_cell_tmp11 (p := 8) (s := 9) rfl _ _ a 37 _ (0, 0) _ rfl (H5.out.2.2.2.1.cb.rowed [.int .i64 r.num, .int .i64 r.zxid, .int .i64 r.err, .int .i64 r.at_, .slice ua uk uc]) Tryz.underlying37 rfl (by kernel_rfl)).trans rfl
  · have h1' : ¬ (1 : Int) < (n : Int) := by omega
    go_wp2_with fail
    refine (HTC.out q F w0 H0.out.1 HS.out.2.2.2.2.2.1 (HS.out.2.2.2.2.2.2.1.below H0.out.2.1) H0.out.2.2.2).mono ?_
    have HM : Hid (T = Tq.turn t s z os) := by
      have e : T = Tq.turn t s z os := by rw [HT.out]; exact Tq.many_one (by have := HN.out; omega)
      exact e
    rw [← HM.out]
    rintro e w5 ⟨F5, u5, rfl, hrn, hl5, hm5⟩
    obtain ⟨r, hr5⟩ : ∃ r, r = T.1.1 := ⟨_, rfl⟩
    obtain ⟨B2, hb2⟩ : ∃ B2, B2 = T.1.2 := ⟨_, rfl⟩
    rw [← hr5] at hrn
    rw [← hr5, ← hb2]
    have hb5 := hb2.symm
    clear hb2
    have hk5 := H0.out.2.2.1.moved hm5
    have hm5 : Moved w w5 F F5 := (Moved.of_below F H0.out.2.1).trans hm5
    have hns := hrn
    obtain ⟨ua, uk, uc, rfl, hj1, hj2⟩ := hns
    have H5 : Hid (Rn12 w0.heap.size F5 w5 (.slice ua uk uc) r.xs ∧ LT w5 q T.2 F5 ∧ Moved w w5 F F5 ∧ Kept11 w5 F5 a [.int .i64 0, .int .i64 0, .int .i64 0, .int .i64 0, .slice none 0 0] 37 ∧ r = T.1.1 ∧ T.1.2 = B2) := ⟨hrn, hl5, hm5, hk5, hr5, hb5⟩
    clear hrn hl5 hm5 hk5 hr5 hb5 hj1 hj2
    unfold rpv
    go_wp2_with (refine wpList_store_row rfl 37 _ _ rfl a ([.int .i64 r.num, .int .i64 r.zxid, .int .i64 r.err, .int .i64 r.at_, .slice ua uk uc] : List Value).toArray rfl rfl 37 _ H5.out.2.2.2.1.cb (by kernel_rfl) rfl (by kernel_rfl) ?_)
    have H9 := fin12 HS.out.1 H5.out.2.1 H5.out.1 HA.out.2 HA.out.1 H5.out.2.2.2.1.off H5.out.2.2.1 ([.int .i64 r.num, .int .i64 r.zxid, .int .i64 r.err, .int .i64 r.at_, .slice ua uk uc] : List Value).toArray
    (try simp only [Exit.inBlock, Exit.then])
    refine bodyPost_ret (v := .tuple #[.agg ([.int .i64 r.num, .int .i64 r.zxid, .int .i64 r.err, .int .i64 r.at_, .slice ua uk uc] : List Value).toArray, .bool B2]) ?_ rfl ⟨F5, .slice ua uk uc, by rw [H5.out.2.2.2.2.2, ← H5.out.2.2.2.2.1]; rfl, by rw [← H5.out.2.2.2.2.1]; exact H9.1, H9.2.1, H9.2.2⟩
    exact (results_cell_tmp11 (p := 8) (s := 9) rfl _ _ a 37 _ (0, 0) _ rfl (H5.out.2.2.2.1.cb.rowed [.int .i64 r.num, .int .i64 r.zxid, .int .i64 r.err, .int .i64 r.at_, .slice ua uk uc]) Tryz.underlying37 rfl (by kernel_rfl)).trans rfl
end Go.Proofs.YtboejbjobjhajaaGreatDoor
namespace Go.Proofs.YtboejbjobjhajaaGreatDoor
open Go.RowKit Go.Shelf
def MaySpec : Prop := ∀ (s n : Int) (u : Value) (os : List O) (w : World), Pa.Std w → Ol w u os → os.length ≤ maxLen → (∀ o ∈ os, OFit o) →
  Calls Tryz.prog 40 #[.agg #[.int .i64 s, .int .i64 n, u]] w fun e w' => e = .returned (.int .i64 (Oq.may s n os)) ∧ Below w.heap.size w w'
abbrev inhO : Inhabited O := ⟨⟨0, ⟨#[]⟩, ⟨#[]⟩, 0, 0⟩⟩
set_option maxRecDepth 20000 in
set_option maxHeartbeats 1000000 in
theorem reads_any (o : O) (w : World) :
    Calls Tryz.prog 88 #[ov o] w fun e w' => e = .returned (.bool (decide (o.kind = 5) || decide (o.kind = 6) || decide (o.kind = 7))) ∧ Below w.heap.size w w' := by
  have HBX : Hid (Box5 (w.alloc (.cells #[.int .i64 o.kind, .string o.path, .string o.data, .int .i64 o.ver, .int .i64 o.flags] 30)) w.heap.size o) := Box5.made w o _
  have HB0 : Hid (Below w.heap.size w (w.alloc (.cells #[.int .i64 o.kind, .string o.path, .string o.data, .int .i64 o.ver, .int .i64 o.flags] 30))) := (Below.refl _ w).alloc (Nat.le_refl _) _
  obtain ⟨K, p, d, V, F⟩ := o
  simp only [] at HBX HB0 ⊢
  unfold ov
  go_enter Tryz.func88, Tryz.ntmps88
  go_upto_region 1 with fail
  generalize w.alloc (.cells #[.int .i64 K, .string p, .string d, .int .i64 V, .int .i64 F] 30) = w1 at *
  obtain ⟨c0, c1, c2, c3, c4⟩ := HBX.out
  simp only [] at c0 c1 c2 c3 c4
  clear c1 c2 c3 c4 HBX
  have hkk : K = 5 ∨ K = 6 ∨ K = 7 ∨ (¬ K = 5 ∧ ¬ K = 6 ∧ ¬ K = 7) := by omega
  rcases hkk with rfl | rfl | rfl | ⟨k5, k6, k7⟩
  all_goals
    go_wp2
    go_ret
    exact ⟨by first | rfl | simp | simp [k5, k6, k7], HB0.out⟩
set_option maxRecDepth 20000 in
set_option maxHeartbeats 1000000 in
theorem indexFunc_none (a : Option Addr) (c : Nat) (fv : Value) (w : World) :
    Calls Tryz.prog 89 #[.slice a 0 c, fv] w fun e w' => e = .returned (.int .i64 (-1)) ∧ w' = w := by
  go_enter Tryz.func89, Tryz.ntmps89
  go_wp2
  go_loopg [5, 8] 0 (fun _ _ s8 wr => s8 = .int .i64 0 ∧ wr = w)
  case atStart => exact ⟨rfl, rfl⟩
  case round =>
    obtain ⟨rfl, rfl⟩ := hrel
    go_wp2
    go_ret
    exact ⟨rfl, rfl⟩
set_option maxRecDepth 20000 in
set_option maxHeartbeats 1000000 in
theorem containsFunc_none (a : Option Addr) (c : Nat) (fv : Value) (w : World) :
    Calls Tryz.prog 87 #[.slice a 0 c, fv] w fun e w' => e = .returned (.bool false) ∧ w' = w := by
  go_enter Tryz.func87, Tryz.ntmps87
  go_wp2_with (go_at_call 89; refine (indexFunc_none a c fv _).mono ?_; rintro e w' ⟨rfl, rfl⟩)
  go_ret
  exact ⟨rfl, rfl⟩
theorem Ol.cells {w : World} {v : Value} {os : List O} (h : Ol w v os) (h0 : 0 < os.length) : ∃ g b c, v = .slice (some ⟨g, b, none⟩) os.length c ∧ g < w.heap.size ∧ ∀ (j : Nat) (_ : j < os.length) (i : Nat) x, (oc (@getElem! (List O) Nat O _ _ inhO os j))[i]? = some x → w.cell? ⟨g, b + j * 5 + i, none⟩ = some x := by
  letI := inhO
  obtain ⟨av, k, c, rfl, hk, hc, hn, hs⟩ := h
  obtain ⟨g, b, rfl, hcell⟩ := hs 0 os[0] (List.getElem?_eq_getElem h0)
  have hlt := World.block_lt_of_cell? w _ (hcell 0 _ rfl)
  refine ⟨g, b, c, by rw [hk], hlt, fun j hj i x hx => ?_⟩
  rw [show (@getElem! (List O) Nat O _ _ inhO os j) = os[j] from getElem!_pos os j hj] at hx
  obtain ⟨g', b', e, hcell'⟩ := hs j os[j] (List.getElem?_eq_getElem hj)
  simp only [Option.some.injEq, Addr.mk.injEq, and_true] at e
  obtain ⟨rfl, rfl⟩ := e
  have := hcell' i x hx
  rw [← Nat.add_assoc] at this
  exact this
theorem containsFunc_any (g : Nat) (p : O → Bool) (eg : ∀ args w, (callFunc g args).run Tryz.prog w = .ok (.enter g args) w) (hp : ∀ (o : O) (w : World), Calls Tryz.prog g #[ov o] w fun e w' => e = .returned (.bool (p o)) ∧ Below w.heap.size w w')
    (u : Value) (os : List O) (w : World) (hu : Ol w u os) (hl : os.length ≤ maxLen) :
    Calls Tryz.prog 87 #[u, .func (.func g) #[] #[]] w fun e w' => e = .returned (.bool (os.any p)) ∧ Below w.heap.size w w' := by
  rcases Nat.eq_zero_or_pos os.length with h0 | h0
  · obtain ⟨av, k, c, rfl, hk, _⟩ := hu
    obtain rfl : os = [] := List.eq_nil_of_length_eq_zero h0
    obtain rfl : k = 0 := hk
    refine (containsFunc_none av c _ w).mono ?_
    rintro e w' ⟨rfl, rfl⟩
    exact ⟨rfl, Below.refl _ _⟩
  · obtain ⟨gb, b, c, rfl, hlt, hcs⟩ := hu.cells h0
    have hpb : PredBelow Tryz.prog g #[] (fun x => .agg (oc x).toArray) p w := fun W x hb => (hp x W).mono fun e w' ⟨h1, h2⟩ => ⟨h1, hb.trans (h2.mono hb.size)⟩
    have h := @Tryz.slices_ContainsFunc_Op O inhO 5 Tryz.isAgg30 Tryz.sizeOf30 oc (fun _ => rfl) p g #[] eg gb b os.length c os w hpb (Nat.le_refl _) (by unfold maxLen at hl; exact hl) hlt hcs
    rw [List.take_length] at h
    exact h
theorem any_reads {os : List O} (h : Oq.firstBad os = 0) : (os.any fun o => decide (o.kind = 5) || decide (o.kind = 6) || decide (o.kind = 7)) = os.any fun o => decide (5 ≤ o.kind) := by
  have hg := firstBad_none h
  clear h
  induction os with
  | nil => rfl
  | cons o os ih =>
    have h1 := hg o (by simp)
    have hk : 1 ≤ o.kind ∧ o.kind ≤ 7 := by
      cases hh : Oq.headB o with
      | true =>
        rw [Oq.good_head hh] at h1
        cases h1
      | false => exact ⟨(Oq.head_no hh).1, (Oq.head_no hh).2.1⟩
    have e : (decide (o.kind = 5) || decide (o.kind = 6) || decide (o.kind = 7)) = decide (5 ≤ o.kind) := by
      by_cases h5 : 5 ≤ o.kind
      · rw [decide_eq_true h5]
        have h6 : o.kind = 5 ∨ o.kind = 6 ∨ o.kind = 7 := by omega
        rcases h6 with h6 | h6 | h6 <;> simp [h6]
      · rw [decide_eq_false h5, decide_eq_false (by omega), decide_eq_false (by omega), decide_eq_false (by omega)]
        rfl
    rw [List.any_cons, List.any_cons, e, ih (fun x hx => hg x (by simp [hx]))]
set_option maxRecDepth 20000 in
set_option maxHeartbeats 4000000 in
theorem may_spec : MaySpec := by
  intro s n u os w hS hu hl hfit
  have HU : Hid (Ol w u os ∧ os.length ≤ maxLen ∧ ∀ o ∈ os, OFit o) := ⟨hu, hl, hfit⟩
  have HBX : Hid (Box3 (w.alloc (.cells #[.int .i64 s, .int .i64 n, u] 41)) w.heap.size s n u) := Box3.made w s n u _
  have HB0 : Hid (Below w.heap.size w (w.alloc (.cells #[.int .i64 s, .int .i64 n, u] 41))) := (Below.refl _ w).alloc (Nat.le_refl _) _
  have HST : Hid (Pa.Std w) := hS
  obtain ⟨R, hR⟩ : ∃ R : Int, R = Oq.may s n os := ⟨_, rfl⟩
  have HR : Hid (R = Oq.may s n os) := hR
  rw [← hR]
  obtain ⟨au, m, cu, rfl, hm, hX⟩ := hu
  have HM : Hid (m = os.length) := hm
  clear hR hS hm hX hl hfit
  have eg : ∀ args w, (callFunc 88 args).run Tryz.prog w = .ok (.enter 88 args) w := enters_of Tryz.func88 (by kernel_rfl) rfl
  have HE : Hid (∀ args w, (callFunc 88 args).run Tryz.prog w = .ok (.enter 88 args) w) := eg
  clear eg
  go_enter Tryz.func40, Tryz.ntmps40
  go_upto_region 1 with fail
  generalize w.alloc (.cells #[.int .i64 s, .int .i64 n, .slice au m cu] 41) = w1 at *
  obtain ⟨c0, c1, c2⟩ := HBX.out
  by_cases h1 : s < 1
  · have H3 : Hid (R = 1) := by
      have h : R = 1 := by rw [HR.out]; unfold Oq.may; rw [if_pos (Or.inl h1)]
      exact h
    go_wp2
    go_ret
    rw [H3.out]
    exact ⟨rfl, HB0.out⟩
  by_cases h2 : n < 1
  · have H3 : Hid (R = 1) := by
      have h : R = 1 := by rw [HR.out]; unfold Oq.may; rw [if_pos (Or.inr (Or.inl h2))]
      exact h
    go_wp2
    go_ret
    rw [H3.out]
    exact ⟨rfl, HB0.out⟩
  by_cases h3 : m = 0
  · have H3 : Hid (R = 1) := by
      have h : R = 1 := by rw [HR.out]; unfold Oq.may; rw [if_pos (Or.inr (Or.inr (by rw [← HM.out]; exact h3)))]
      exact h
    subst h3
    go_wp2
    go_ret
    rw [H3.out]
    exact ⟨rfl, HB0.out⟩
  have h3' : ¬ (m : Int) = 0 := by omega
  by_cases h16 : 16 < m
  · have h16' : (16 : Int) < (m : Int) := by omega
    have H3 : Hid (R = 2) := by
      have h : R = 2 := by rw [HR.out]; unfold Oq.may; rw [if_neg (by rw [← HM.out]; omega), if_pos (by rw [← HM.out]; exact h16)]
      exact h
    clear h3
    go_wp2
    go_ret
    rw [H3.out]
    exact ⟨rfl, HB0.out⟩
  have h16' : ¬ (16 : Int) < (m : Int) := by omega
  have HR2 : Hid (R = if Oq.firstBad os ≠ 0 then Oq.firstBad os else if 1 < os.length ∧ os.any (fun o => decide (5 ≤ o.kind)) = true then 1 else 0) := by
    have h : R = if Oq.firstBad os ≠ 0 then Oq.firstBad os else if 1 < os.length ∧ os.any (fun o => decide (5 ≤ o.kind)) = true then 1 else 0 := by
      rw [HR.out]; unfold Oq.may; rw [if_neg (by rw [← HM.out]; omega), if_neg (by rw [← HM.out]; exact h16)]
    exact h
  clear h3
  go_wp2
  go_loopw [27] (fun i wr => ∃ k : Nat, k ≤ m ∧ i = .int .i64 (k : Int) ∧ Oq.firstBad (os.take k) = 0 ∧ Below w1.heap.size w1 wr) (fun i _ => ((m : Int) - intOf i).toNat)
  case atStart => exact ⟨0, Nat.zero_le _, rfl, rfl, Below.refl _ _⟩
  case round =>
    obtain ⟨k, hk, rfl, hany, hb⟩ := hrel
    have HA : Hid (Oq.firstBad (os.take k) = 0) := hany
    have HB1 : Hid (Below w1.heap.size w1 wr) := hb
    have HB : Hid (Below w.heap.size w wr) := HB0.out.trans (hb.mono HB0.out.size)
    obtain ⟨d0, d1, d2⟩ := HBX.out.below hb
    clear hany hb c0 c1 c2
    by_cases hlt : k < m
    · have hlt' : (k : Int) < (m : Int) := by omega
      have hkl : k < os.length := by rw [← HM.out]; exact hlt
      obtain ⟨g, b, c', hv', hcs⟩ := (HU.out.1.below HB.out).at (by omega)
      simp only [Value.slice.injEq] at hv'
      obtain ⟨rfl, hq, rfl⟩ := hv'
      obtain ⟨e0, e1, e2, e3, e4⟩ := hcs k os[k] (List.getElem?_eq_getElem hkl)
      have HK : Hid (os[k]? = some os[k] ∧ OFit os[k]) := ⟨List.getElem?_eq_getElem hkl, HU.out.2.2 _ (List.getElem_mem hkl)⟩
      generalize os[k] = o at *
      clear hcs hq hkl
      have HAL : Hid (Below wr.heap.size wr (wr.alloc (.cells #[.int .i64 o.kind, .string o.path, .string o.data, .int .i64 o.ver, .int .i64 o.flags] 30))) := (Below.refl _ wr).alloc (Nat.le_refl _) _
      go_wp2_with fail
      refine (good_spec o _ ((HST.out.below HB.out).below HAL.out) HK.out.2).mono ?_
      rintro e w2 ⟨rfl, hb⟩
      have hb2 : Below wr.heap.size wr w2 := HAL.out.trans (hb.mono HAL.out.size)
      have HB2 : Hid (Below w1.heap.size w1 w2) := HB1.out.trans (hb2.mono HB1.out.size)
      have HBW : Hid (Below w.heap.size w w2) := HB.out.trans (hb2.mono HB.out.size)
      clear hb hb2 HAL d0 d1 d2 e0 e1 e2 e3 e4
      obtain ⟨E, hE⟩ : ∃ E, E = Oq.good o := ⟨_, rfl⟩
      have HE : Hid (E = Oq.good o) := hE
      rw [← hE]
      clear hE
      have HF := Oq.firstBad_take HK.out.1 HA.out
      have HF : Hid ((Oq.good o ≠ 0 → Oq.firstBad os = Oq.good o) ∧ (Oq.good o = 0 → Oq.firstBad (os.take (k + 1)) = 0)) := HF
      by_cases hE0 : E = 0
      · have HA2 : Hid (Oq.firstBad (os.take (k + 1)) = 0) := by
          have h : Oq.firstBad (os.take (k + 1)) = 0 := HF.out.2 (by rw [← HE.out]; exact hE0)
          exact h
        subst hE0
        go_wp2
        go_roundw
        case rel => exact ⟨k + 1, by omega, by go_num, HA2.out, HB2.out⟩
        case measure => simp [intOf]; omega
      · have H3 : Hid (R = E) := by
          have h : R = E := by
            have hne : Oq.good o ≠ 0 := by rw [← HE.out]; exact hE0
            rw [HR2.out, HF.out.1 hne, if_pos hne, HE.out]
          exact h
        go_wp2
        go_ret
        rw [H3.out]
        exact ⟨rfl, HBW.out⟩
    · have hlt' : ¬ (k : Int) < (m : Int) := by omega
      have HFB : Hid (Oq.firstBad os = 0) := by
        have h2 := HA.out
        rw [List.take_of_length_le (by rw [← HM.out]; omega)] at h2
        exact h2
      have HR3 : Hid (R = if 1 < os.length ∧ os.any (fun o => decide (5 ≤ o.kind)) = true then 1 else 0) := by
        have h : R = if 1 < os.length ∧ os.any (fun o => decide (5 ≤ o.kind)) = true then 1 else 0 := by
          rw [HR2.out, HFB.out]
          rfl
        exact h
      by_cases hm1 : 1 < m
      · have hm1' : (1 : Int) < (m : Int) := by omega
        have HM1 : Hid (1 < os.length) := by
          have h : 1 < os.length := by rw [← HM.out]; exact hm1
          exact h
        go_wp2_with fail
        refine (containsFunc_any 88 _ HE.out reads_any _ os _ (HU.out.1.below HB.out) HU.out.2.1).mono ?_
        rintro e w2 ⟨rfl, hb⟩
        rw [any_reads HFB.out]
        have HBW : Hid (Below w.heap.size w w2) := HB.out.trans (hb.mono HB.out.size)
        clear hb d0 d1 d2
        obtain ⟨C, hC⟩ : ∃ C : Bool, C = os.any (fun o => decide (5 ≤ o.kind)) := ⟨_, rfl⟩
        have HR4 : Hid (R = if C = true then 1 else 0) := by
          have h : R = if C = true then 1 else 0 := by
            rw [HR3.out, hC]
            by_cases h2 : os.any (fun o => decide (5 ≤ o.kind)) = true
            · rw [if_pos ⟨HM1.out, h2⟩, if_pos h2]
            · rw [if_neg (fun h => h2 h.2), if_neg h2]
          exact h
        rw [← hC]
        clear hC
        cases C with
        | true =>
          have H3 : Hid (R = 1) := HR4.out
          go_wp2
          go_ret
          rw [H3.out]
          exact ⟨rfl, HBW.out⟩
        | false =>
          have H3 : Hid (R = 0) := HR4.out
          go_wp2
          go_ret
          rw [H3.out]
          exact ⟨rfl, HBW.out⟩
      · have hm1' : ¬ (1 : Int) < (m : Int) := by omega
        have H3 : Hid (R = 0) := by
          have h : R = 0 := by
            rw [HR3.out, if_neg]
            rintro ⟨h1, _⟩
            rw [← HM.out] at h1
            exact hm1 h1
          exact h
        clear hm1
        go_wp2
        go_ret
        rw [H3.out]
        exact ⟨rfl, HB.out⟩
end Go.Proofs.YtboejbjobjhajaaGreatDoor
namespace Go.Proofs.YtboejbjobjhajaaGreatDoor
open Go.RowKit
set_option maxRecDepth 20000 in
set_option maxHeartbeats 8000000 in
theorem ask_any12 {LT : Rep11} (S : Specs11 LT) (D : SpecD12 LT) (q : Nat) (t : Tq.Tr) (F : Nat → Prop) (s n z : Int) (v : Value) (os : List O) (mm : Nat) (w : World) (hL : LT w q t F) (hf : Fine11 t) (hk : Tq.Few t mm) (hm : mm ≤ 883) (h6 : ∀ k, F k → 6 ≤ k) (hS : Pa.Std w) (hO : Om12 w F v os) (hok : ∀ o ∈ os, OFit o) (hn : os.length ≤ maxLen) :
    Calls Tryz.prog 57 #[dptr q, .agg #[.int .i64 s, .int .i64 n, v], .int .i64 z] w fun e w' => ∃ F' u, e = .returned (rpv (Tq.ask t s n z os).1 u) ∧ Rn12 w.heap.size F' w' u (Tq.ask t s n z os).1.xs ∧ LT w' q (Tq.ask t s n z os).2 F' ∧ Moved w w' F F' := by
  obtain ⟨T, hT⟩ : ∃ T, T = Tq.ask t s n z os := ⟨_, rfl⟩
  rw [← hT]
  have HT : Hid (T = Tq.ask t s n z os) := hT
  obtain ⟨M, hM⟩ : ∃ M, M = Oq.may s n os := ⟨_, rfl⟩
  have HM : Hid (M = Oq.may s n os) := hM
  have HS : Hid (Specs11 LT ∧ SpecD12 LT ∧ Fine11 t ∧ Tq.Few t mm ∧ mm ≤ 883 ∧ (∀ k, F k → 6 ≤ k) ∧ Pa.Std w ∧ (∀ o ∈ os, OFit o) ∧ os.length ≤ maxLen) := ⟨S, D, hf, hk, hm, h6, hS, hok, hn⟩
  have hOl := hO.ol
  obtain ⟨va, m, vc, rfl, hnn, hjj⟩ := hOl
  obtain ⟨qr, hqr⟩ : ∃ a, a = w.heap.size := ⟨_, rfl⟩
  obtain ⟨qa, hqa⟩ : ∃ a, a = w.heap.size + 1 := ⟨_, rfl⟩
  have H0 : Hid (LT ((w.alloc (.cells #[.int .i64 s, .int .i64 n, .slice va m vc] 41)).alloc (.cells #[.int .i64 0, .int .i64 0, .int .i64 0, .int .i64 0, .slice none 0 0] 37)) q t F ∧ Below w.heap.size w ((w.alloc (.cells #[.int .i64 s, .int .i64 n, .slice va m vc] 41)).alloc (.cells #[.int .i64 0, .int .i64 0, .int .i64 0, .int .i64 0, .slice none 0 0] 37)) ∧ Kept11 ((w.alloc (.cells #[.int .i64 s, .int .i64 n, .slice va m vc] 41)).alloc (.cells #[.int .i64 0, .int .i64 0, .int .i64 0, .int .i64 0, .slice none 0 0] 37)) F qa [.int .i64 0, .int .i64 0, .int .i64 0, .int .i64 0, .slice none 0 0] 37 ∧ Om12 ((w.alloc (.cells #[.int .i64 s, .int .i64 n, .slice va m vc] 41)).alloc (.cells #[.int .i64 0, .int .i64 0, .int .i64 0, .int .i64 0, .slice none 0 0] 37)) F (.slice va m vc) os ∧ Kept11 ((w.alloc (.cells #[.int .i64 s, .int .i64 n, .slice va m vc] 41)).alloc (.cells #[.int .i64 0, .int .i64 0, .int .i64 0, .int .i64 0, .slice none 0 0] 37)) F qr [.int .i64 s, .int .i64 n, .slice va m vc] 41) := by
    have h1 := (Below.refl _ w).alloc (Nat.le_refl _) (.cells #[.int .i64 s, .int .i64 n, .slice va m vc] 41)
    have h2 := (Below.refl _ (w.alloc (.cells #[.int .i64 s, .int .i64 n, .slice va m vc] 41))).alloc (Nat.le_refl _) (.cells #[.int .i64 0, .int .i64 0, .int .i64 0, .int .i64 0, .slice none 0 0] 37)
    have h3 := h1.trans (h2.mono h1.size)
    have hs1 : (w.alloc (.cells #[.int .i64 s, .int .i64 n, .slice va m vc] 41)).heap.size = w.heap.size + 1 := World.size_alloc _ _
    have hk := Kept11.made (w.alloc (.cells #[.int .i64 s, .int .i64 n, .slice va m vc] 41)) F (fun k hk => by have := S.lt hL hk; omega) [.int .i64 0, .int .i64 0, .int .i64 0, .int .i64 0, .slice none 0 0] 37
    rw [hs1] at hk
    refine ⟨S.keep hL (fun k hk => h3.block k (S.lt hL hk)), h3, by rw [hqa]; exact hk, hO.later h3, ?_⟩
    rw [hqr]
    exact (Kept11.made w F (fun k hk => S.lt hL hk) [.int .i64 s, .int .i64 n, .slice va m vc] 41).later h2
  have HA : Hid (w.heap.size ≤ qa ∧ qa < ((w.alloc (.cells #[.int .i64 s, .int .i64 n, .slice va m vc] 41)).alloc (.cells #[.int .i64 0, .int .i64 0, .int .i64 0, .int .i64 0, .slice none 0 0] 37)).heap.size) := ⟨by omega, by rw [World.size_alloc, World.size_alloc]; omega⟩
  clear S D hf hk hm h6 hS hok hjj hnn hO hL hT hn hM
  unfold dptr
  go_enter Tryz.func57, Tryz.ntmps57
  go_upto_region 1 with fail
  rw [← hqa, ← hqr]
  clear hqa hqr
  generalize ((w.alloc (.cells #[.int .i64 s, .int .i64 n, .slice va m vc] 41)).alloc (.cells #[.int .i64 0, .int .i64 0, .int .i64 0, .int .i64 0, .slice none 0 0] 37)) = w0 at *
  have c0 : w0.cell? ⟨qr, 0, none⟩ = some (.int .i64 s) := (H0.out.2.2.2.2.cb.cell 0).trans rfl
  have c1 : w0.cell? ⟨qr, 1, none⟩ = some (.int .i64 n) := (H0.out.2.2.2.2.cb.cell 1).trans rfl
  have c2 : w0.cell? ⟨qr, 2, none⟩ = some (.slice va m vc) := (H0.out.2.2.2.2.cb.cell 2).trans rfl
  go_wp2_with fail
  clear c0 c1 c2
  refine (may_spec s n (.slice va m vc) os w0 (HS.out.2.2.2.2.2.2.1.below H0.out.2.1) H0.out.2.2.2.1.ol HS.out.2.2.2.2.2.2.2.2 HS.out.2.2.2.2.2.2.2.1).mono ?_
  rw [← HM.out]
  rintro e w1 ⟨rfl, hb1⟩
  have H1 : Hid (LT w1 q t F ∧ Below w.heap.size w w1 ∧ Kept11 w1 F qa [.int .i64 0, .int .i64 0, .int .i64 0, .int .i64 0, .slice none 0 0] 37 ∧ Om12 w1 F (.slice va m vc) os ∧ Kept11 w1 F qr [.int .i64 s, .int .i64 n, .slice va m vc] 41 ∧ qa < w1.heap.size) := ⟨HS.out.1.keep H0.out.1 (fun k hk => hb1.block k (HS.out.1.lt H0.out.1 hk)), H0.out.2.1.trans (hb1.mono H0.out.2.1.size), H0.out.2.2.1.later hb1, H0.out.2.2.2.1.later hb1, H0.out.2.2.2.2.later hb1, Nat.lt_of_lt_of_le HA.out.2 hb1.size⟩
  clear hb1 H0
  have c0 : w1.cell? ⟨qr, 0, none⟩ = some (.int .i64 s) := (H1.out.2.2.2.2.1.cb.cell 0).trans rfl
  have c1 : w1.cell? ⟨qr, 1, none⟩ = some (.int .i64 n) := (H1.out.2.2.2.2.1.cb.cell 1).trans rfl
  have c2 : w1.cell? ⟨qr, 2, none⟩ = some (.slice va m vc) := (H1.out.2.2.2.2.1.cb.cell 2).trans rfl
  by_cases hz : M = 0
  · have hzb : (M != 0) = false := by simp [hz]
    have HZ : Hid (T = ({ (Tq.many t s z os).1.1 with num := n, zxid := z }, (Tq.many t s z os).2)) := by
      have e : T = ({ (Tq.many t s z os).1.1 with num := n, zxid := z }, (Tq.many t s z os).2) := by rw [HT.out]; unfold Tq.ask; rw [← HM.out, if_neg (by simp [hz])]
      exact e
    clear hz
    go_wp2_with fail
    clear c0 c1 c2 hzb
    refine (many_any12 HS.out.1 HS.out.2.1 q t F s z (.slice va m vc) os mm w1 H1.out.1 HS.out.2.2.1 HS.out.2.2.2.1 HS.out.2.2.2.2.1 HS.out.2.2.2.2.2.1 (HS.out.2.2.2.2.2.2.1.below H1.out.2.1) H1.out.2.2.2.1 HS.out.2.2.2.2.2.2.2.1 (by have h := HS.out.2.2.2.2.2.2.2.2; unfold maxLen at h; omega)).mono ?_
    obtain ⟨r, B, t2, hrt⟩ : ∃ r B t2, Tq.many t s z os = ((r, B), t2) := ⟨_, _, _, rfl⟩
    have HZ2 : Hid (T = ({ r with num := n, zxid := z }, t2)) := by
      have e := HZ.out
      rw [hrt] at e
      exact e
    rw [hrt]
    clear hrt
    rintro e w2 ⟨F2, u, rfl, hrn, hl2, hmv⟩
    have hns := hrn
    obtain ⟨ua, uk, uc, rfl, hj1, hj2⟩ := hns
    obtain ⟨qb, hqb⟩ : ∃ z, z = w2.heap.size := ⟨_, rfl⟩
    have H3 : Hid (Cb (w2.alloc (.cells #[.int .i64 r.num, .int .i64 r.zxid, .int .i64 r.err, .int .i64 r.at_, .slice ua uk uc] 37)) qb [.int .i64 r.num, .int .i64 r.zxid, .int .i64 r.err, .int .i64 r.at_, .slice ua uk uc] 37 ∧ Kept11 (w2.alloc (.cells #[.int .i64 r.num, .int .i64 r.zxid, .int .i64 r.err, .int .i64 r.at_, .slice ua uk uc] 37)) F2 qr [.int .i64 s, .int .i64 n, .slice va m vc] 41) := by
      have hba := (Below.refl _ w2).alloc (Nat.le_refl _) (.cells #[.int .i64 r.num, .int .i64 r.zxid, .int .i64 r.err, .int .i64 r.at_, .slice ua uk uc] 37)
      exact ⟨by rw [hqb]; exact Cb.made w2 _ _, (H1.out.2.2.2.2.1.moved hmv).later hba⟩
    have H4 : Hid (LT (((w2.alloc (.cells #[.int .i64 r.num, .int .i64 r.zxid, .int .i64 r.err, .int .i64 r.at_, .slice ua uk uc] 37)).setCell ⟨qb, 0, none⟩ (.int .i64 n)).setCell ⟨qb, 1, none⟩ (.int .i64 z)) q t2 F2 ∧ Rn12 w1.heap.size F2 (((w2.alloc (.cells #[.int .i64 r.num, .int .i64 r.zxid, .int .i64 r.err, .int .i64 r.at_, .slice ua uk uc] 37)).setCell ⟨qb, 0, none⟩ (.int .i64 n)).setCell ⟨qb, 1, none⟩ (.int .i64 z)) (.slice ua uk uc) r.xs ∧ Moved w (((w2.alloc (.cells #[.int .i64 r.num, .int .i64 r.zxid, .int .i64 r.err, .int .i64 r.at_, .slice ua uk uc] 37)).setCell ⟨qb, 0, none⟩ (.int .i64 n)).setCell ⟨qb, 1, none⟩ (.int .i64 z)) F F2 ∧ Kept11 (((w2.alloc (.cells #[.int .i64 r.num, .int .i64 r.zxid, .int .i64 r.err, .int .i64 r.at_, .slice ua uk uc] 37)).setCell ⟨qb, 0, none⟩ (.int .i64 n)).setCell ⟨qb, 1, none⟩ (.int .i64 z)) F2 qa [.int .i64 0, .int .i64 0, .int .i64 0, .int .i64 0, .slice none 0 0] 37 ∧ Cb (((w2.alloc (.cells #[.int .i64 r.num, .int .i64 r.zxid, .int .i64 r.err, .int .i64 r.at_, .slice ua uk uc] 37)).setCell ⟨qb, 0, none⟩ (.int .i64 n)).setCell ⟨qb, 1, none⟩ (.int .i64 z)) qb [.int .i64 n, .int .i64 z, .int .i64 r.err, .int .i64 r.at_, .slice ua uk uc] 37) := by
      have hba := (Below.refl _ w2).alloc (Nat.le_refl _) (.cells #[.int .i64 r.num, .int .i64 r.zxid, .int .i64 r.err, .int .i64 r.at_, .slice ua uk uc] 37)
      have g1 := grownBy_setCell (w2.alloc (.cells #[.int .i64 r.num, .int .i64 r.zxid, .int .i64 r.err, .int .i64 r.at_, .slice ua uk uc] 37)) ⟨qb, 0, none⟩ (.int .i64 n)
      have b1 := hba.grown g1 hba.size (fun k hk => by simp at hk; omega)
      have g2 := grownBy_setCell ((w2.alloc (.cells #[.int .i64 r.num, .int .i64 r.zxid, .int .i64 r.err, .int .i64 r.at_, .slice ua uk uc] 37)).setCell ⟨qb, 0, none⟩ (.int .i64 n)) ⟨qb, 1, none⟩ (.int .i64 z)
      have b2 := b1.grown g2 b1.size (fun k hk => by simp at hk; omega)
      exact ⟨HS.out.1.keep hl2 (fun k hk => b2.block k (HS.out.1.lt hl2 hk)), hrn.later b2, ((Moved.of_below F H1.out.2.1).trans hmv).trans (Moved.of_below F2 b2), (H1.out.2.2.1.moved hmv).later b2, (H3.out.1.set 0 (.int .i64 n)).set 1 (.int .i64 z)⟩
    have HQ1 : Hid (qa < w1.heap.size) := H1.out.2.2.2.2.2
    clear hrn hl2 hmv hj1 hj2 H1
    unfold rpv
    go_upto_region 5 with fail
    rw [← hqb]
    have d0 : (w2.alloc (.cells #[.int .i64 r.num, .int .i64 r.zxid, .int .i64 r.err, .int .i64 r.at_, .slice ua uk uc] 37)).cell? ⟨qb, 0, none⟩ = some (.int .i64 r.num) := (H3.out.1.cell 0).trans rfl
    have d1 : (w2.alloc (.cells #[.int .i64 r.num, .int .i64 r.zxid, .int .i64 r.err, .int .i64 r.at_, .slice ua uk uc] 37)).cell? ⟨qb, 1, none⟩ = some (.int .i64 r.zxid) := (H3.out.1.cell 1).trans rfl
    have f0 := H3.out.1.free 0
    have f1 := H3.out.1.free 1
    have e1 : (w2.alloc (.cells #[.int .i64 r.num, .int .i64 r.zxid, .int .i64 r.err, .int .i64 r.at_, .slice ua uk uc] 37)).cell? ⟨qr, 1, none⟩ = some (.int .i64 n) := (H3.out.2.cb.cell 1).trans rfl
    clear hqb
    generalize (w2.alloc (.cells #[.int .i64 r.num, .int .i64 r.zxid, .int .i64 r.err, .int .i64 r.at_, .slice ua uk uc] 37)) = w3 at *
    go_upto_region 6 with fail
    clear d0 d1 f0 f1 e1 H3
    generalize (w3.setCell ⟨qb, 0, none⟩ (.int .i64 n)).setCell ⟨qb, 1, none⟩ (.int .i64 z) = w4 at *
    go_wp2_with (first
      | (refine wpList_load_row rfl 37 _ rfl qb rfl 37 ([.int .i64 n, .int .i64 z, .int .i64 r.err, .int .i64 r.at_, .slice ua uk uc] : List Value).toArray (0, 0) _ H4.out.2.2.2.2 Tryz.underlying37 rfl (by kernel_rfl) ?_)
      | (refine wpList_store_row rfl 37 _ _ rfl qa ([.int .i64 n, .int .i64 z, .int .i64 r.err, .int .i64 r.at_, .slice ua uk uc] : List Value).toArray rfl rfl 37 _ H4.out.2.2.2.1.cb (by kernel_rfl) rfl (by kernel_rfl) ?_))
    have H9 := fin12 HS.out.1 H4.out.1 H4.out.2.1 HQ1.out HA.out.1 H4.out.2.2.2.1.off H4.out.2.2.1 ([.int .i64 n, .int .i64 z, .int .i64 r.err, .int .i64 r.at_, .slice ua uk uc] : List Value).toArray
    refine bodyPost_ret (v := .agg ([.int .i64 n, .int .i64 z, .int .i64 r.err, .int .i64 r.at_, .slice ua uk uc] : List Value).toArray) ?_ rfl ⟨F2, .slice ua uk uc, by rw [HZ2.out]; rfl, by rw [HZ2.out]; exact H9.1, by rw [HZ2.out]; exact H9.2.1, H9.2.2⟩
    exact results_cell_row rfl _ _ qa 37 _ (0, 0) _ rfl (H4.out.2.2.2.1.cb.rowed ([.int .i64 n, .int .i64 z, .int .i64 r.err, .int .i64 r.at_, .slice ua uk uc] : List Value)) Tryz.underlying37 rfl (by kernel_rfl)
  · have hzb : (M != 0) = true := by simp [hz]
    have HZ : Hid (T = (Rq.fail n M (-1) 0, t)) := by
      have e : T = (Rq.fail n M (-1) 0, t) := by rw [HT.out]; unfold Tq.ask; rw [← HM.out, if_pos hz]
      exact e
    clear hz
    go_wp2_with fail
    clear c0 c1 c2 hzb
    refine (fail_any12 n M (-1) 0 w1 (by decide) (by decide)).mono ?_
    rintro e w5 ⟨u, rfl, ⟨hrl, hnw⟩, hb⟩
    obtain ⟨r, hr0⟩ : ∃ r, r = Rq.fail n M (-1) 0 := ⟨_, rfl⟩
    rw [← hr0] at hrl ⊢
    have HZ2 : Hid (T = (r, t)) := by rw [hr0]; exact HZ.out
    have hrn : Rn12 w1.heap.size F w5 u r.xs := Rn12.bare hrl hnw (by rw [hr0]; exact fail_bare _ _ _ _) (fun k hk => HS.out.1.lt H1.out.1 hk)
    have hns := hrn
    obtain ⟨ua, uk, uc, rfl, hj1, hj2⟩ := hns
    have H4 : Hid (LT w5 q t F ∧ Rn12 w1.heap.size F w5 (.slice ua uk uc) r.xs ∧ Moved w w5 F F ∧ Kept11 w5 F qa [.int .i64 0, .int .i64 0, .int .i64 0, .int .i64 0, .slice none 0 0] 37) := ⟨HS.out.1.keep H1.out.1 (fun k hk => hb.block k (HS.out.1.lt H1.out.1 hk)), hrn, Moved.of_below F (H1.out.2.1.trans (hb.mono H1.out.2.1.size)), H1.out.2.2.1.later hb⟩
    have HQ1 : Hid (qa < w1.heap.size) := H1.out.2.2.2.2.2
    clear hrl hnw hb hrn hj1 hj2 hr0 H1 HZ
    unfold rpv
    go_wp2_with (refine wpList_store_row rfl 37 _ _ rfl qa ([.int .i64 r.num, .int .i64 r.zxid, .int .i64 r.err, .int .i64 r.at_, .slice ua uk uc] : List Value).toArray rfl rfl 37 _ H4.out.2.2.2.cb (by kernel_rfl) rfl (by kernel_rfl) ?_)
    have H9 := fin12 HS.out.1 H4.out.1 H4.out.2.1 HQ1.out HA.out.1 H4.out.2.2.2.off H4.out.2.2.1 ([.int .i64 r.num, .int .i64 r.zxid, .int .i64 r.err, .int .i64 r.at_, .slice ua uk uc] : List Value).toArray
    refine bodyPost_ret (v := .agg ([.int .i64 r.num, .int .i64 r.zxid, .int .i64 r.err, .int .i64 r.at_, .slice ua uk uc] : List Value).toArray) ?_ rfl ⟨F, .slice ua uk uc, by rw [HZ2.out]; rfl, by rw [HZ2.out]; exact H9.1, by rw [HZ2.out]; exact H9.2.1, H9.2.2⟩
    exact results_cell_row rfl _ _ qa 37 _ (0, 0) _ rfl (H4.out.2.2.2.cb.rowed ([.int .i64 r.num, .int .i64 r.zxid, .int .i64 r.err, .int .i64 r.at_, .slice ua uk uc] : List Value)) Tryz.underlying37 rfl (by kernel_rfl)
end Go.Proofs.YtboejbjobjhajaaGreatDoor
