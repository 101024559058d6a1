/- What Move does. -/
import Derived.Test.YtpjdjobdbandhaaDoorWIns16
namespace Go.Proofs.YtpjdjobdbandhaaDoor
open Go.RowKit

theorem insert_row16 (v : Value) (N i : Nat) (l : List Tb.Mv) (x : Tb.Mv) (vb : Nat) (w : World) (h : w.ownsRow 0 68 2 v N (mcs l)) (hN : N ≤ 1000) (hl : N = l.length) (hi : i ≤ N) (hc : Cb w vb (mc x) 68) (hv : v.ownBlock ≠ some vb) :
    Calls Tryd.prog 30 #[v, .int .i64 (i : Int), .slice (some ⟨vb, 0, none⟩) 1 1] w (InsP 0 v N (l.take i ++ x :: l.drop i) w) := by
  by_cases hiN : i = N
  · subst hiN
    rw [List.take_of_length_le (by omega), List.drop_of_length_le (by omega)]
    exact insert_end16 0 v i l x vb w h (Nat.zero_le _) hN hc
  · rcases h.2 with ⟨rfl, rfl⟩ | ⟨g, c, cur, rfl, _, _, hNc, _⟩
    · omega
    · by_cases hr : N + 1 ≤ c
      · exact insert_shift16 0 g N c i l x vb w h hN hl (by omega) hr hc (fun e => hv (by rw [e]; rfl))
      · obtain rfl : c = N := by omega
        exact insert_grow16 0 g c i l x vb w h (Nat.zero_le _) hN hl (by omega) hc
theorem row_whole16 {w : World} {g N c t : Nat} {l : List Tb.Mv} (h : w.ownsRow 0 t 2 (.slice (some ⟨g, 0, none⟩) N c) N (mcs l)) : ∃ C0 : List Value, Cb w g C0 t ∧ C0.length = c * 2 ∧ C0.take (N * 2) = mcs l ∧ c ≤ maxLen ∧ N ≤ c := by
  rcases h.2 with ⟨e, _⟩ | ⟨g', c', cur, e, j1, j2, j3, j4, j5, j6⟩
  · cases e
  · simp only [Value.slice.injEq, Option.some.injEq, Addr.mk.injEq, and_true] at e
    obtain ⟨⟨rfl, _⟩, _, rfl⟩ := e
    exact ⟨cur.toList, by unfold Cb; rw [Array.toArray_toList]; exact j2, by simpa using j5, j6, j4, j3⟩
/-- One of the row is given to another shard. -/
theorem Lt16.given {w : World} {q g N c p : Nat} {s : Tb.St} {x : Tb.Mv} (h : Lt16 w q s (.slice (some ⟨g, 0, none⟩) N c)) (hN : N = s.l.length) (hx : s.l[p]? = some x) (n : Int) :
    Lt16 (w.setCell ⟨g, p * 2 + 1, none⟩ (.int .i64 n)) q ⟨s.shards, s.version, s.l.set p ⟨x.top, n⟩⟩ (.slice (some ⟨g, 0, none⟩) N c) ∧ Moved w (w.setCell ⟨g, p * 2 + 1, none⟩ (.int .i64 n)) (Ft16 (.slice (some ⟨g, 0, none⟩) N c) q) (Ft16 (.slice (some ⟨g, 0, none⟩) N c) q) := by
  have hg := grownBy_setCell w ⟨g, p * 2 + 1, none⟩ (.int .i64 n)
  have hap := h.blk.apart h.row (by decide)
  refine ⟨⟨h.blk.keep (hg.block q h.blk.lt (fun e => hap e.symm)), ?_⟩, hg.os, hg.tape, hg.output, hg.size, fun k hk hF => hg.block k hk (fun e => hF (Or.inl e.symm)), fun k hk => Or.inl hk⟩
  have hr := h.row
  rw [← hN] at hr
  have h2 := (hr.stored (p * 2 + 1) (.int .i64 n)).1
  rw [mcs_set _ _ _ hx] at h2
  simp only [List.length_set]
  rw [← hN]
  exact h2
/-- Another version. -/
theorem Lt16.vers {w : World} {q : Nat} {s : Tb.St} {v : Value} (h : Lt16 w q s v) (z : Int) :
    Lt16 (w.setCell ⟨q, 1, none⟩ (.int .i64 z)) q ⟨s.shards, z, s.l⟩ v ∧ Moved w (w.setCell ⟨q, 1, none⟩ (.int .i64 z)) (Ft16 v q) (Ft16 v q) := by
  have hg := grownBy_setCell w ⟨q, 1, none⟩ (.int .i64 z)
  have hap := h.blk.apart h.row (by decide)
  refine ⟨⟨h.blk.set 1 _, row_stays h.row fun k hk => hg.block k (h.row.lt k hk).2 (fun e => hap (by rw [hk]; simpa using e))⟩, hg.os, hg.tape, hg.output, hg.size, fun k hk hF => hg.block k hk (fun e => hF (Or.inr (by simpa using e))), fun k hk => Or.inl hk⟩
/-- Another row. -/
theorem Lt16.rowed {w w' : World} {q : Nat} {s : Tb.St} {v v' : Value} {l : List Tb.Mv} (h : Lt16 w q s v) (hr : w'.ownsRow 0 68 2 v' l.length (mcs l)) (hg : w.grownBy w' v.ownBlock) (ho : v'.ownBlock = v.ownBlock ∨ v'.ownBlock = some w.heap.size) :
    Cb w' q [.int .i64 s.shards, .int .i64 s.version, v] 63 ∧ Lt16 (w'.setCell ⟨q, 2, none⟩ v') q ⟨s.shards, s.version, l⟩ v' ∧ Moved w (w'.setCell ⟨q, 2, none⟩ v') (Ft16 v q) (Ft16 v' q) := by
  have hap := h.blk.apart h.row (by decide)
  have hq : Cb w' q [.int .i64 s.shards, .int .i64 s.version, v] 63 := h.blk.keep (hg.block q h.blk.lt (fun e => hap e.symm))
  have hg2 := grownBy_setCell w' ⟨q, 2, none⟩ v'
  have hap2 := hq.apart hr (by decide)
  have hsz := hg2.size
  refine ⟨hq, ⟨hq.set 2 _, row_stays hr fun k hk => hg2.block k (hr.lt k hk).2 (fun e => hap2 (by rw [hk]; simpa using e))⟩, hg2.os.trans hg.os, hg2.tape.trans hg.tape, hg2.output.trans hg.output, Nat.le_trans hg.size hg2.size, fun k hk hF => ?_, fun k hk => ?_⟩
  · rw [hg2.block k (Nat.lt_of_lt_of_le hk hg.size) (fun e => hF (Or.inr (by simpa using e)))]
    exact hg.block k hk (fun e => hF (Or.inl e.symm))
  · rcases hk with hk | rfl
    · rcases ho with e | e
      · exact Or.inl (Or.inl (by rw [← e]; exact hk))
      · rw [e] at hk
        simp only [Option.some.injEq] at hk
        exact Or.inr (by omega)
    · exact Or.inl (Or.inr rfl)
/-- What Move leaves. -/
def MvP (w : World) (q : Nat) (F : Nat → Prop) (R : Int × Tb.St) (e : Ending) (w' : World) : Prop := ∃ F', e = .returned (.int .i64 R.1) ∧ LTb w' q R.2 F' ∧ Moved w w' F F'
theorem MvP.same {w w' : World} {q : Nat} {s : Tb.St} {v : Value} {R : Int × Tb.St} {z : Int} (h : Lt16 w q s v) (hR : R = (z, s)) (hb : Below w.heap.size w w') : MvP w q (Ft16 v q) R (.returned (.int .i64 z)) w' := by
  subst hR
  exact ⟨_, rfl, ⟨v, h.later hb, rfl⟩, Moved.of_below _ hb⟩
theorem MvP.done {w w' : World} {q : Nat} {s : Tb.St} {v : Value} {F : Nat → Prop} {R : Int × Tb.St} (h : Lt16 w' q s v) (hR : R = (0, s)) (hm : Moved w w' F (Ft16 v q)) : MvP w q F R (.returned (.int .i64 0)) w' := by
  subst hR
  exact ⟨_, rfl, ⟨v, h, rfl⟩, hm⟩
theorem ins_at16 {l : List Tb.Mv} {p : Nat} (hp : p ≤ l.length) (a : Tb.Mv) : (l.take p ++ a :: l.drop p)[p]? = some a ∧ (l.take p ++ a :: l.drop p).length = l.length + 1 ∧ ∀ b, (l.take p ++ a :: l.drop p).set p b = l.take p ++ b :: l.drop p := by
  have e : (l.take p).length = p := by rw [List.length_take, Nat.min_eq_left hp]
  refine ⟨by rw [List.getElem?_append_right (by omega), e, Nat.sub_self]; rfl, by rw [List.length_append, List.length_cons, e, List.length_drop]; omega, fun b => ?_⟩
  rw [List.set_append_right _ _ (by omega), e, Nat.sub_self]
  rfl
set_option maxRecDepth 20000 in
set_option maxHeartbeats 8000000 in
theorem move_walk16 (q : Nat) (s : Tb.St) (v : Value) (m : Int) (t : ByteArray) (n : Int) (w : World) (h : Lt16 w q s v) (hf : Tb.Fine m s) (hm : m ≤ 2199023255552) (hS : Pa.Std w) (ht : t.size ≤ maxLen) (R : Int × Tb.St) (hR : R = Tb.move s t n) :
    Calls Tryd.prog 11 #[dptr q, .string t, .int .i64 n] w fun e w' => MvP w q (Ft16 v q) R e w' := by
  obtain ⟨nm, hnm⟩ : ∃ z, z = Tb.isName t := ⟨_, rfl⟩
  have HG : Hid (Calls Tryd.prog 28 #[.string t] w fun e w' => e = .returned (.bool nm) ∧ Below w.heap.size w w') := by
    rw [hnm]
    exact isName_any16 t w hS ht
  have H0 : Hid (Lt16 w q s v ∧ Tb.Fine m s ∧ R = Tb.move s t n ∧ nm = Tb.isName t ∧ m ≤ 2199023255552) := ⟨h, hf, hR, hnm, hm⟩
  have HNO : Hid (Tb.may s t n = false → R = (1, s)) := fun e => by rw [hR]; exact Tb.move_no e
  clear h hf hm hS ht hR hnm
  unfold dptr
  go_enter Tryd.func11, Tryd.ntmps11
  go_wp2_with fail
  refine HG.out.mono ?_
  rintro e w1 ⟨rfl, hb⟩
  have H1 : Hid (Below w.heap.size w w1) := hb
  clear hb HG
  cases nm with
  | false =>
    have HR : Hid (R = (1, s)) := HNO.out (by unfold Tb.may; rw [← H0.out.2.2.2.1]; rfl)
    go_wp2
    go_ret
    exact MvP.same H0.out.1 HR.out H1.out
  | true =>
    by_cases h1 : n < 0
    · have HR : Hid (R = (1, s)) := HNO.out (by
        have h : ¬ Tb.may s t n = true := fun e => by have := (Tb.may_iff.1 e).2.1; omega
        simpa using h)
      go_wp2
      go_ret
      exact MvP.same H0.out.1 HR.out H1.out
    have c0 : w1.cell? ⟨q, 0, none⟩ = some (.int .i64 s.shards) := (H0.out.1.later H1.out).blk.cell 0
    by_cases h2 : s.shards ≤ n
    · have HR : Hid (R = (1, s)) := HNO.out (by
        have h : ¬ Tb.may s t n = true := fun e => by have := (Tb.may_iff.1 e).2.2; omega
        simpa using h)
      go_wp2
      go_ret
      exact MvP.same H0.out.1 HR.out H1.out
    have HM : Hid (Tb.may s t n = true) := Tb.may_iff.2 ⟨H0.out.2.2.2.1.symm, by omega, by omega⟩
    obtain ⟨p, hp⟩ : ∃ p, p = Tb.pos s.l t := ⟨_, rfl⟩
    obtain ⟨hs, hhs⟩ : ∃ z, z = Tb.has s.l t := ⟨_, rfl⟩
    have HFI : Hid (Calls Tryd.prog 29 #[dptr q, .string t] w1 fun e w' => e = .returned (.tuple #[.int .i64 (p : Int), .bool hs]) ∧ Below w1.heap.size w1 w') := by
      rw [hp, hhs]
      exact find_any16 q s v t w1 (H0.out.1.later H1.out) (by have := H0.out.2.1.len; omega) H0.out.2.1.rises
    have HP : Hid (p = Tb.pos s.l t ∧ hs = Tb.has s.l t ∧ p ≤ s.l.length ∧ s.l.length ≤ 50) := ⟨hp, hhs, by rw [hp]; exact Tb.pos_le _ _, H0.out.2.1.len⟩
    have HV : Hid (IntKind.wrap .i64 (s.version + 1) = s.version + 1) := (show IntKind.wrap .i64 (s.version + 1) = s.version + 1 by
      have a1 := H0.out.2.1.v1
      have a2 := H0.out.2.1.vm
      have a3 := H0.out.2.2.2.2
      rw [IntKind.wrap_i64]
      omega)
    clear hp hhs HNO
    unfold dptr at HFI
    go_wp2_with fail
    refine HFI.out.mono ?_
    rintro e w2 ⟨rfl, hb⟩
    have H2 : Hid (Below w.heap.size w w2) := H1.out.trans (hb.mono H1.out.size)
    clear hb c0 H1 HFI
    cases hs with
    | true =>
      obtain ⟨x, hx, hxt⟩ := (Tb.pos_has H0.out.2.1.rises).1 HP.out.2.1.symm
      rw [← HP.out.1] at hx
      obtain ⟨N, hN⟩ : ∃ N, N = s.l.length := ⟨_, rfl⟩
      have hpN := (List.getElem?_eq_some_iff.1 hx).1
      rw [← hN] at hpN
      obtain ⟨a, c, hv, hNc, hj⟩ := row_form H0.out.1.row
      rw [← hN] at hv
      obtain ⟨g, rfl⟩ := hj (by omega)
      subst hv
      have HT : Hid (Lt16 w2 q s (.slice (some ⟨g, 0, none⟩) N c) ∧ N = s.l.length ∧ s.l[p]? = some x ∧ Moved w w2 (Ft16 (.slice (some ⟨g, 0, none⟩) N c) q) (Ft16 (.slice (some ⟨g, 0, none⟩) N c) q) ∧ R = (0, ⟨s.shards, s.version + 1, s.l.set p ⟨x.top, n⟩⟩)) := ⟨H0.out.1.later H2.out, hN, hx, Moved.of_below _ H2.out, by rw [H0.out.2.2.1, Tb.move_at HM.out HP.out.2.1.symm, ← HP.out.1, hxt]⟩
      clear hx hxt hN hNc hj H2
      have p0 : (0 : Int) ≤ (p : Int) := by omega
      have pN : (p : Int) < (N : Int) := by omega
      have d2 : w2.cell? ⟨q, 2, none⟩ = some (.slice (some ⟨g, 0, none⟩) N c) := HT.out.1.blk.cell 2
      have hrw := HT.out.1.row
      rw [← HT.out.2.1] at hrw
      obtain ⟨r0, r1⟩ := row_at16 hrw HT.out.2.2.1
      have f1 : w2.frozen? ⟨g, p * 2 + 1, none⟩ = false := by
        obtain ⟨C0, hC, _⟩ := row_whole16 hrw
        exact hC.free _
      clear hrw
      have HE : Hid (Lt16 (w2.setCell ⟨g, p * 2 + 1, none⟩ (.int .i64 n)) q ⟨s.shards, s.version, s.l.set p ⟨x.top, n⟩⟩ (.slice (some ⟨g, 0, none⟩) N c) ∧ Moved w2 (w2.setCell ⟨g, p * 2 + 1, none⟩ (.int .i64 n)) (Ft16 (.slice (some ⟨g, 0, none⟩) N c) q) (Ft16 (.slice (some ⟨g, 0, none⟩) N c) q)) := HT.out.1.given HT.out.2.1 HT.out.2.2.1 n
      go_upto_region 9 with fail
      clear p0 pN d2 r0 r1 f1
      generalize w2.setCell ⟨g, p * 2 + 1, none⟩ (.int .i64 n) = w8 at *
      have d1 : w8.cell? ⟨q, 1, none⟩ = some (.int .i64 s.version) := HE.out.1.blk.cell 1
      have f8 := HE.out.1.blk.free 1
      have hwv : IntKind.wrap .i64 (s.version + 1) = s.version + 1 := HV.out
      have HE2 : Hid (Lt16 (w8.setCell ⟨q, 1, none⟩ (.int .i64 (s.version + 1))) q ⟨s.shards, s.version + 1, s.l.set p ⟨x.top, n⟩⟩ (.slice (some ⟨g, 0, none⟩) N c) ∧ Moved w8 (w8.setCell ⟨q, 1, none⟩ (.int .i64 (s.version + 1))) (Ft16 (.slice (some ⟨g, 0, none⟩) N c) q) (Ft16 (.slice (some ⟨g, 0, none⟩) N c) q)) := HE.out.1.vers (s.version + 1)
      go_wp2
      go_ret
      exact MvP.done HE2.out.1 HT.out.2.2.2.2 ((HT.out.2.2.2.1.trans HE.out.2).trans HE2.out.2)
    | false =>
      obtain ⟨N, hN⟩ : ∃ N, N = s.l.length := ⟨_, rfl⟩
      obtain ⟨a, c, hv, hNc, hj⟩ := row_form H0.out.1.row
      rw [← hN] at hv
      subst hv
      have HN : Hid (N = s.l.length) := hN
      have c2 : w2.cell? ⟨q, 2, none⟩ = some (.slice a N c) := (H0.out.1.later H2.out).blk.cell 2
      have hN51 : (N : Int) ≤ 50 := by have := H0.out.2.1.len; omega
      clear hN hNc hj
      by_cases hfu : (50 : Int) ≤ (N : Int)
      · have HR : Hid (R = (2, s)) := (show R = (2, s) by rw [H0.out.2.2.1]; exact Tb.move_full HM.out HP.out.2.1.symm (by have := HN.out; omega))
        go_wp2
        go_ret
        exact MvP.same H0.out.1 HR.out H2.out
      · have HR : Hid (R = (0, ⟨s.shards, s.version + 1, s.l.take p ++ ⟨t, n⟩ :: s.l.drop p⟩)) := (show R = _ by rw [H0.out.2.2.1, Tb.move_ins HM.out HP.out.2.1.symm (by have := HN.out; omega), ← HP.out.1])
        obtain ⟨vb, hvb⟩ : ∃ z, z = w2.heap.size := ⟨_, rfl⟩
        have H3 : Hid (Lt16 (w2.alloc (.cells #[.string t, .int .i64 0] 68)) q s (.slice a N c) ∧ Cb (w2.alloc (.cells #[.string t, .int .i64 0] 68)) vb (mc ⟨t, 0⟩) 68 ∧ (Value.slice a N c).ownBlock ≠ some vb ∧ Below w.heap.size w (w2.alloc (.cells #[.string t, .int .i64 0] 68))) := by
          have hb := (Below.refl _ w2).alloc (Nat.le_refl _) (.cells #[.string t, .int .i64 0] 68)
          have hl2 := H0.out.1.later H2.out
          rw [hvb]
          exact ⟨hl2.later hb, Cb.made w2 (mc ⟨t, 0⟩) _, fun e => by have := (hl2.row.lt _ e).2; omega, H2.out.trans (hb.mono H2.out.size)⟩
        go_wp2_with fail
        rw [← hvb]
        clear hvb c2 H2 hfu
        generalize (w2.alloc (.cells #[.string t, .int .i64 0] 68)) = w3 at *
        refine (insert_row16 (.slice a N c) N p s.l ⟨t, 0⟩ vb w3 (by have h := H3.out.1.row; rw [← HN.out] at h; exact h) (by omega) HN.out (by have := HP.out.2.2.1; have := HN.out; omega) H3.out.2.1 H3.out.2.2.1).mono ?_
        rintro e w4 ⟨v4, rfl, hr4, hg4, ho4⟩
        obtain ⟨i1, i2, i3⟩ := ins_at16 HP.out.2.2.1 (⟨t, 0⟩ : Tb.Mv)
        obtain ⟨l4, hl4⟩ : ∃ l4, l4 = s.l.take p ++ (⟨t, 0⟩ : Tb.Mv) :: s.l.drop p := ⟨_, rfl⟩
        rw [← hl4] at hr4 i1 i2
        have hM : N + 1 = l4.length := by rw [i2, ← HN.out]
        obtain ⟨M, hMM⟩ : ∃ M, M = N + 1 := ⟨_, rfl⟩
        rw [← hMM] at hr4
        have hr5 := hr4
        rw [show M = l4.length by omega] at hr5
        have hpM : p < M := by have := HP.out.2.2.1; have := HN.out; omega
        obtain ⟨a4, c4, hv4, _, hj4⟩ := row_form hr4
        obtain ⟨g4, rfl⟩ := hj4 (by omega)
        subst hv4
        obtain ⟨hq4, hl5, hm5⟩ := H3.out.1.rowed hr5 hg4 ho4
        have z2 : w4.cell? ⟨q, 2, none⟩ = some (.slice a N c) := hq4.cell 2
        have f2 := hq4.free 2
        have HT : Hid (Lt16 (w4.setCell ⟨q, 2, none⟩ (.slice (some ⟨g4, 0, none⟩) M c4)) q ⟨s.shards, s.version, l4⟩ (.slice (some ⟨g4, 0, none⟩) M c4) ∧ M = l4.length ∧ l4[p]? = some (⟨t, 0⟩ : Tb.Mv) ∧ Moved w (w4.setCell ⟨q, 2, none⟩ (.slice (some ⟨g4, 0, none⟩) M c4)) (Ft16 (.slice a N c) q) (Ft16 (.slice (some ⟨g4, 0, none⟩) M c4) q) ∧ R = (0, ⟨s.shards, s.version + 1, l4.set p ⟨t, n⟩⟩)) := ⟨hl5, by omega, i1, (Moved.of_below _ H3.out.2.2.2).trans hm5, by rw [HR.out, hl4, i3]⟩
        obtain ⟨sA, hsA⟩ : ∃ sA : Tb.St, sA = ⟨s.shards, s.version, l4⟩ := ⟨_, rfl⟩
        obtain ⟨x, hxA⟩ : ∃ x : Tb.Mv, x = ⟨t, 0⟩ := ⟨_, rfl⟩
        have e1 : s.shards = sA.shards := by rw [hsA]
        have e2 : s.version = sA.version := by rw [hsA]
        have e3 : l4 = sA.l := by rw [hsA]
        have e4 : t = x.top := by rw [hxA]
        have HTT : Hid (Lt16 (w4.setCell ⟨q, 2, none⟩ (.slice (some ⟨g4, 0, none⟩) M c4)) q sA (.slice (some ⟨g4, 0, none⟩) M c4) ∧ M = sA.l.length ∧ sA.l[p]? = some x ∧ Moved w (w4.setCell ⟨q, 2, none⟩ (.slice (some ⟨g4, 0, none⟩) M c4)) (Ft16 (.slice a N c) q) (Ft16 (.slice (some ⟨g4, 0, none⟩) M c4) q) ∧ R = (0, ⟨sA.shards, sA.version + 1, sA.l.set p ⟨x.top, n⟩⟩)) := by
          have h := HT.out
          rw [← hsA, ← hxA, e3, e1, e2] at h
          rw [← e4]
          exact h
        have HVA : Hid (IntKind.wrap .i64 (sA.version + 1) = sA.version + 1) := by rw [← e2]; exact HV
        clear hr4 hr5 hg4 ho4 i1 i2 i3 hl4 hM hMM hj4 hq4 hl5 hm5 hsA hxA e1 e2 e3 e4 HT HV
        have HT := HTT
        have HV := HVA
        clear HTT HVA
        go_upto_region 8 with fail
        clear z2 f2
        generalize w4.setCell ⟨q, 2, none⟩ (.slice (some ⟨g4, 0, none⟩) M c4) = w5 at *
        have p0 : (0 : Int) ≤ (p : Int) := by omega
        have pN : (p : Int) < (M : Int) := by omega
        have d2 : w5.cell? ⟨q, 2, none⟩ = some (.slice (some ⟨g4, 0, none⟩) M c4) := HT.out.1.blk.cell 2
        have hrw := HT.out.1.row
        rw [← HT.out.2.1] at hrw
        obtain ⟨r0, r1⟩ := row_at16 hrw HT.out.2.2.1
        have f1 : w5.frozen? ⟨g4, p * 2 + 1, none⟩ = false := by
          obtain ⟨C0, hC, _⟩ := row_whole16 hrw
          exact hC.free _
        clear hrw
        have HE : Hid (Lt16 (w5.setCell ⟨g4, p * 2 + 1, none⟩ (.int .i64 n)) q ⟨sA.shards, sA.version, sA.l.set p ⟨x.top, n⟩⟩ (.slice (some ⟨g4, 0, none⟩) M c4) ∧ Moved w5 (w5.setCell ⟨g4, p * 2 + 1, none⟩ (.int .i64 n)) (Ft16 (.slice (some ⟨g4, 0, none⟩) M c4) q) (Ft16 (.slice (some ⟨g4, 0, none⟩) M c4) q)) := HT.out.1.given HT.out.2.1 HT.out.2.2.1 n
        go_upto_region 9 with fail
        clear p0 pN d2 r0 r1 f1
        generalize w5.setCell ⟨g4, p * 2 + 1, none⟩ (.int .i64 n) = w8 at *
        have d1 : w8.cell? ⟨q, 1, none⟩ = some (.int .i64 sA.version) := HE.out.1.blk.cell 1
        have f8 := HE.out.1.blk.free 1
        have hwv : IntKind.wrap .i64 (sA.version + 1) = sA.version + 1 := HV.out
        have HE2 : Hid (Lt16 (w8.setCell ⟨q, 1, none⟩ (.int .i64 (sA.version + 1))) q ⟨sA.shards, sA.version + 1, sA.l.set p ⟨x.top, n⟩⟩ (.slice (some ⟨g4, 0, none⟩) M c4) ∧ Moved w8 (w8.setCell ⟨q, 1, none⟩ (.int .i64 (sA.version + 1))) (Ft16 (.slice (some ⟨g4, 0, none⟩) M c4) q) (Ft16 (.slice (some ⟨g4, 0, none⟩) M c4) q)) := HE.out.1.vers (sA.version + 1)
        go_wp2
        go_ret
        exact MvP.done HE2.out.1 HT.out.2.2.2.2 ((HT.out.2.2.2.1.trans HE.out.2).trans HE2.out.2)
theorem move_any16 (q : Nat) (s : Tb.St) (F : Nat → Prop) (m : Int) (t : ByteArray) (n : Int) (w : World) (hL : LTb w q s F) (hf : Tb.Fine m s) (hm : m ≤ 2199023255552) (hS : Pa.Std w) (ht : t.size ≤ maxLen) :
    Calls Tryd.prog 11 #[dptr q, .string t, .int .i64 n] w fun e w' => ∃ F', e = .returned (.int .i64 (Tb.move s t n).1) ∧ LTb w' q (Tb.move s t n).2 F' ∧ Moved w w' F F' := by
  obtain ⟨v, h, rfl⟩ := hL
  exact move_walk16 q s v m t n w h hf hm hS ht _ rfl
end Go.Proofs.YtpjdjobdbandhaaDoor
