import Derived.Test.YtboejbjobjhajaaGreatDoorWCo18
import Derived.Laws.StructEq
namespace Go.Proofs.YtboejbjobjhajaaGreatDoor
open Go.RowKit
theorem sess_eq18 (n : Nat) (c d : Bool) (w : World) : (binOp .eql 109 (.agg #[.int .i64 (n : Int), .bool c, .bool d]) (.agg #[.int .i64 0, .bool false, .bool false])).run Tryz.prog w = .ok (.bool (decide (n = 0) && !c && !d)) w := by
  cases n <;> cases c <;> cases d <;> kernel_rfl
section
variable {LT : Rep11} {LS : Rep17} {w0 w w' : World} {q : Nat} {room z wt wt' : Int} {t : Tq.Tr} {lk : Lk.St} {fw fd fs fs' : Lit → Option Value} {F : Nat → Prop} {qt ql a b c : Nat} {Ft Fl G : Nat → Prop} {b1 : Nat} {se : Int} {u : Value} {clo : Bool}
structure Ct18 (LT : Rep11) (LS : Rep17) (w0 w : World) (q : Nat) (room z wt : Int) (t : Tq.Tr) (lk : Lk.St) (fw fd fs : Lit → Option Value) (F : Nat → Prop) (qt ql a b c : Nat) (Ft Fl G : Nat → Prop) (b1 : Nat) (se : Int) (u : Value) (clo : Bool) : Prop where
  pt : PtU18 LT LS w q room z wt t lk fw fd fs F qt ql a b c Ft Fl G
  box : Cb w b1 [.int .i64 se, u, .bool clo] 94
  hi : w0.heap.size ≤ b1
  off : ¬ F b1
  old : ∀ k, F k → k < w0.heap.size
  mv : Moved w0 w F F
  kp : ∀ k, k < w0.heap.size → k ≠ q → k ≠ c → w.heap[k]? = w0.heap[k]?
theorem Ct18.later (S : Base18 LT LS) (h : Ct18 LT LS w0 w q room z wt t lk fw fd fs F qt ql a b c Ft Fl G b1 se u clo) (hb : Below w.heap.size w w') : Ct18 LT LS w0 w' q room z wt t lk fw fd fs F qt ql a b c Ft Fl G b1 se u clo :=
  ⟨h.pt.below S.t S.l hb, h.box.below hb, h.hi, h.off, h.old, h.mv.trans (Moved.of_below F hb), fun k hk h1 h2 => (hb.block k (Nat.lt_of_lt_of_le hk h.mv.size)).trans (h.kp k hk h1 h2)⟩
theorem Ct18.grown (S : Base18 LT LS) {b6 : Nat} (h : Ct18 LT LS w0 w q room z wt t lk fw fd fs F qt ql a b c Ft Fl G b1 se u clo) (hg : w.grownBy w' (some b6)) (h6 : w0.heap.size ≤ b6) (hn : b6 ≠ b1) : Ct18 LT LS w0 w' q room z wt t lk fw fd fs F qt ql a b c Ft Fl G b1 se u clo := by
  have hs := h.mv.size
  have hk : ∀ k, F k → w'.heap[k]? = w.heap[k]? := fun k hk => hg.block k (h.pt.flt k hk) (fun e => by have := h.old k hk; have := Option.some.inj e; omega)
  exact ⟨h.pt.keep S.t S.l hk, h.box.keep (hg.block b1 h.box.lt (fun e => hn (Option.some.inj e).symm)), h.hi, h.off, h.old, ⟨hg.os.trans h.mv.os, hg.tape.trans h.mv.tape, hg.output.trans h.mv.output, Nat.le_trans hs hg.size, fun k hl hF => (hg.block k (by omega) (fun e => by have := Option.some.inj e; omega)).trans (h.mv.block k hl hF), h.mv.sub⟩, fun k hl h1 h2 => (hg.block k (by omega) (fun e => by have := Option.some.inj e; omega)).trans (h.kp k hl h1 h2)⟩
theorem Ct18.cell (S : Base18 LT LS) (h : Ct18 LT LS w0 w q room z wt t lk fw fd fs F qt ql a b c Ft Fl G b1 se u clo) (wt' : Int) : Ct18 LT LS w0 (w.setCell ⟨q, 7, none⟩ (.int .i64 wt')) q room z wt' t lk fw fd fs F qt ql a b c Ft Fl G b1 se u clo := by
  obtain ⟨h1, h2, h3⟩ := h.pt.cell S.t S.l 7 (.int .i64 wt') rfl
  have hs := h.mv.size
  obtain ⟨col, hc⟩ := h.pt.col
  exact ⟨h1, h.box.keep (h3 b1 (fun e => h.off (e ▸ hc.fq))), h.hi, h.off, h.old, h.mv.trans h2, fun k hl e1 e2 => (h3 k e1).trans (h.kp k hl e1 e2)⟩
theorem Ct18.turn (S : Base18 LT LS) (h : Ct18 LT LS w0 w q room z wt t lk fw fd fs F qt ql a b c Ft Fl G b1 se u clo) (ht : w.mapTurned w' c) (hm : Mq w' 2 c fs') : Ct18 LT LS w0 w' q room z wt t lk fw fd fs' F qt ql a b c Ft Fl G b1 se u clo := by
  obtain ⟨h1, h2, h3⟩ := h.pt.turn_s S.t S.l ht hm
  have hs := h.mv.size
  obtain ⟨col, hc⟩ := h.pt.col
  exact ⟨h1, h.box.keep (h3 b1 h.box.lt (fun e => h.off (e ▸ hc.fc))), h.hi, h.off, h.old, h.mv.trans h2, fun k hl e1 e2 => (h3 k (by omega) e2).trans (h.kp k hl e1 e2)⟩
set_option maxRecDepth 20000 in
set_option maxHeartbeats 8000000 in
theorem count_any18 (S : Base18 LT LS) (h : PtU18 LT LS w q room z wt t lk fw fd fs F qt ql a b c Ft Fl G) (hfew : Few fs 4000) (hse : I64 se) (n : Nat) (cg cd : Bool) (hget : fs (ikey se) = sq18 n cg cd) (av : Option Addr) (N cc : Nat) (os : List O) (hu : Ol w (.slice av N cc) os) (hl : os.length ≤ 1000) (clo : Bool) (by_ : Int) (hby : by_ = 1 ∨ by_ = -1) (wt' : Int) (hwt : wt' = wt + by_ * (Pt.made os : Int)) (hwb : 0 ≤ wt ∧ wt ≤ 1000000 ∧ 0 ≤ wt' ∧ wt' ≤ 1000000) (n' : Nat) (cg' : Bool) (hn1 : clo = true → n' = n ∧ cg' = decide (0 < by_)) (hn2 : clo = false → (n' : Int) = n + by_ ∧ cg' = cg) (hnb : n ≤ 1000000) :
    Calls Tryz.prog 54 #[dptr q, .agg #[.int .i64 se, .slice av N cc, .bool clo], .int .i64 by_] w fun e w' => e = .returned (.tuple #[]) ∧ ∃ fs', Up fs (ikey se) (sq18 n' cg' cd) fs' ∧ PtU18 LT LS w' q room z wt' t lk fw fd fs' F qt ql a b c Ft Fl G ∧ Moved w w' F F ∧ ∀ k, k < w.heap.size → k ≠ q → k ≠ c → w'.heap[k]? = w.heap[k]? := by
  obtain ⟨M, hM⟩ : ∃ M, M = Pt.made os := ⟨_, rfl⟩
  rw [← hM] at hwt
  have hMb : M ≤ 1000 := by rw [hM]; exact Nat.le_trans (made_le18 os) hl
  have hw1 : IntKind.wrap .i64 (by_ * (M : Int)) = by_ * (M : Int) := by rw [IntKind.wrap_i64]; rcases hby with rfl | rfl <;> omega
  have hw2 : IntKind.wrap .i64 (wt + by_ * (M : Int)) = wt' := by rw [← hwt, IntKind.wrap_i64]; omega
  have H0 : Hid (Base18 LT LS ∧ Few fs 4000 ∧ keyOf Tryz.prog 2 (.int .i64 se) = some (ikey se) ∧ M = Pt.made os ∧ os.length ≤ 1000 ∧ Ol w (.slice av N cc) os ∧ fs (ikey se) = sq18 n cg cd ∧ n ≤ 1000000 ∧ (by_ = 1 ∨ by_ = -1)) := ⟨S, hfew, key_i hse, hM, hl, hu, hget, hnb, hby⟩
  have HN : Hid ((clo = true → n' = n ∧ cg' = decide (0 < by_)) ∧ (clo = false → (n' : Int) = n + by_ ∧ cg' = cg)) := ⟨hn1, hn2⟩
  obtain ⟨b1, hb1⟩ : ∃ b, b = w.heap.size := ⟨_, rfl⟩
  have H1 : Hid (Ct18 LT LS w (w.alloc (.cells #[.int .i64 se, .slice av N cc, .bool clo] 94)) q room z wt t lk fw fd fs F qt ql a b c Ft Fl G b1 se (.slice av N cc) clo ∧ Below w.heap.size w (w.alloc (.cells #[.int .i64 se, .slice av N cc, .bool clo] 94))) := by
    have hb := (Below.refl w.heap.size w).alloc (Nat.le_refl _) (.cells #[.int .i64 se, .slice av N cc, .bool clo] 94)
    exact ⟨⟨h.below S.t S.l hb, by rw [hb1]; exact Cb.made w _ _, by omega, fun e => by have := h.flt b1 e; omega, h.flt, Moved.of_below F hb, fun k hk _ _ => hb.block k hk⟩, hb⟩
  clear S h hfew hse hM hl hu hget hnb hby hn1 hn2 hwt
  go_enter Tryz.func54, Tryz.ntmps54
  go_upto_region 1 with fail
  rw [← hb1]
  clear hb1
  generalize w.alloc (.cells #[.int .i64 se, .slice av N cc, .bool clo] 94) = w1 at *
  refine wp_region_T (fun w' => Below w1.heap.size w1 w') 12 (by kernel_rfl) ?_
  have H2 : Hid (Below w1.heap.size w1 w1.drew) := (Below.refl _ w1).drew
  generalize w1.drew = w2 at *
  refine' take_T (i := 0) (d := 7) (v := _) rfl rfl (by kernel_rfl) (by kernel_rfl) (by kernel_rfl) (by kernel_rfl) (by kernel_rfl) (fun _ _ _ h => h) (Or.inl ⟨by rfl, ?h0⟩) (H2.out) ?_
  case h0 => intro w hSw; have t1 := Below.kept hSw H1.out.1.pt.c7; have t2 : w.cell? ⟨b1, 1, none⟩ = some (.slice av N cc) := Below.kept hSw (H1.out.1.box.cell 1); go_simp; with_reducible rfl
  simp only [sA, sB, sC]
  refine' take_T (i := 1) (d := 8) (v := _) rfl rfl (by kernel_rfl) (by kernel_rfl) (by kernel_rfl) (by kernel_rfl) (by kernel_rfl) (fun _ _ _ h => h) (Or.inl ⟨by rfl, ?h1⟩) (H2.out) ?_
  case h1 => intro w hSw; have t1 := Below.kept hSw H1.out.1.pt.c7; have t2 : w.cell? ⟨b1, 1, none⟩ = some (.slice av N cc) := Below.kept hSw (H1.out.1.box.cell 1); go_simp; with_reducible rfl
  simp only [sA, sB, sC]
  refine' take_T (i := 2) (d := 9) (v := _) rfl rfl (by kernel_rfl) (by kernel_rfl) (by kernel_rfl) (by kernel_rfl) (by kernel_rfl) (fun _ _ _ h => h) (Or.inl ⟨by rfl, ?h2⟩) (H2.out) ?_
  case h2 => intro w hSw; have t1 := Below.kept hSw H1.out.1.pt.c7; have t2 : w.cell? ⟨b1, 1, none⟩ = some (.slice av N cc) := Below.kept hSw (H1.out.1.box.cell 1); go_simp; with_reducible rfl
  simp only [sA, sB, sC]
  refine' take_T (i := 3) (d := 10) (v := _) rfl rfl (by kernel_rfl) (by kernel_rfl) (by kernel_rfl) (by kernel_rfl) (by kernel_rfl) (fun _ _ _ h => h) (Or.inl ⟨by rfl, ?h3⟩) (H2.out) ?_
  case h3 => intro w hSw; have t1 := Below.kept hSw H1.out.1.pt.c7; have t2 : w.cell? ⟨b1, 1, none⟩ = some (.slice av N cc) := Below.kept hSw (H1.out.1.box.cell 1); go_simp; with_reducible rfl
  simp only [sA, sB, sC]
  refine' take_T (i := 4) (d := 11) (v := _) rfl rfl (by kernel_rfl) (by kernel_rfl) (by kernel_rfl) (by kernel_rfl) (by kernel_rfl) (fun _ _ _ h => h) (Or.inl ⟨by rfl, ?h4⟩) (H2.out) ?_
  case h4 => intro w hSw; have t1 := Below.kept hSw H1.out.1.pt.c7; have t2 : w.cell? ⟨b1, 1, none⟩ = some (.slice av N cc) := Below.kept hSw (H1.out.1.box.cell 1); go_simp; with_reducible rfl
  simp only [sA, sB, sC]
  refine' take_T (i := 5) (d := 12) (v := _) rfl rfl (by kernel_rfl) (by kernel_rfl) (by kernel_rfl) (by kernel_rfl) (by kernel_rfl) (fun _ _ _ h => h) (Or.inl ⟨by rfl, ?h5⟩) (H2.out) ?_
  case h5 => intro w hSw; have t1 := Below.kept hSw H1.out.1.pt.c7; have t2 : w.cell? ⟨b1, 1, none⟩ = some (.slice av N cc) := Below.kept hSw (H1.out.1.box.cell 1); go_simp; with_reducible rfl
  simp only [sA, sB, sC]
  refine' take_T (i := 6) (d := 13) (v := _) rfl rfl (by kernel_rfl) (by kernel_rfl) (by kernel_rfl) (by kernel_rfl) (by kernel_rfl) (fun _ _ _ h => h) (Or.inl ⟨by rfl, ?h6⟩) (H2.out) ?_
  case h6 => intro w hSw; have t1 := Below.kept hSw H1.out.1.pt.c7; have t2 : w.cell? ⟨b1, 1, none⟩ = some (.slice av N cc) := Below.kept hSw (H1.out.1.box.cell 1); go_simp; with_reducible rfl
  simp only [sA, sB, sC]
  refine wpAnyT_ready (rs := [7]) (by kernel_rfl) (by simp) ?_
  refine AllReadyT.cons (o := _) rfl (fun KQ hKQ => ?_) AllReadyT.nil
  go_simp
  refine (made_any18 (.slice av N cc) os w2 (H0.out.2.2.2.2.2.1.below (H1.out.2.trans (H2.out.mono H1.out.2.size))) H0.out.2.2.2.2.1).mono ?_
  rintro e w3 ⟨rfl, hb⟩
  rw [← H0.out.2.2.2.1]
  have H3 : Hid (Below w1.heap.size w1 w3) := H2.out.trans (hb.mono H2.out.size)
  clear hb
  refine hKQ.out _ _ (fun _ => H3.out) ?_
  clear hKQ KQ
  refine' take_T (i := 8) (d := 15) (v := _) rfl rfl (by kernel_rfl) (by kernel_rfl) (by kernel_rfl) (by kernel_rfl) (by kernel_rfl) (fun _ _ _ h => h) (Or.inl ⟨by rfl, ?h8⟩) (H3.out) ?_
  case h8 => intro w hSw; go_simp; with_reducible rfl
  simp only [sA, sB, sC]
  refine' take_T (i := 9) (d := 16) (v := _) rfl rfl (by kernel_rfl) (by kernel_rfl) (by kernel_rfl) (by kernel_rfl) (by kernel_rfl) (fun _ _ _ h => h) (Or.inl ⟨by rfl, ?h9⟩) (H3.out) ?_
  case h9 => intro w hSw; go_simp; with_reducible rfl
  simp only [sA, sB, sC]
  refine' take_T (i := 10) (d := 17) (v := _) rfl rfl (by kernel_rfl) (by kernel_rfl) (by kernel_rfl) (by kernel_rfl) (by kernel_rfl) (fun _ _ _ h => h) (Or.inl ⟨by rfl, ?h10⟩) (H3.out) ?_
  case h10 => intro w hSw; go_simp; with_reducible rfl
  simp only [sA, sB, sC]
  refine' take_T (i := 11) (d := 18) (v := _) rfl rfl (by kernel_rfl) (by kernel_rfl) (by kernel_rfl) (by kernel_rfl) (by kernel_rfl) (fun _ _ _ h => h) (Or.inl ⟨by rfl, ?h11⟩) (H3.out) ?_
  case h11 => intro w hSw; go_simp; with_reducible rfl
  simp only [sA, sB, sC]
  have H4 : Hid (Ct18 LT LS w w3 q room z wt t lk fw fd fs F qt ql a b c Ft Fl G b1 se (.slice av N cc) clo) := H1.out.1.later H0.out.1 H3.out
  have f7 : w3.frozen? ⟨q, 7, none⟩ = false := H4.out.pt.blk.free 7
  have c7 := H4.out.pt.c7
  refine wpAnyT_ready (rs := [12]) (by kernel_rfl) (by simp) ?_
  refine AllReadyT.cons (o := _) rfl (fun KQ hKQ => ?_) AllReadyT.nil
  go_simp
  have H5 : Hid (Ct18 LT LS w (w3.setCell ⟨q, 7, none⟩ (.int .i64 wt')) q room z wt' t lk fw fd fs F qt ql a b c Ft Fl G b1 se (.slice av N cc) clo) := H4.out.cell H0.out.1 wt'
  clear f7 c7 H4 H3 H2 H1
  generalize (w3.setCell ⟨q, 7, none⟩ (.int .i64 wt')) = w4 at *
  refine hKQ.out _ _ (fun h => absurd rfl h) ?_
  clear hKQ KQ
  refine wpAnyT_done (by kernel_rfl) ?_ _
  clear hw1 hw2 hMb
  go_upto_region 2 with fail
  refine wp_region_T (fun w' => Below w4.heap.size w4 w') 8 (by kernel_rfl) ?_
  have H6 : Hid (Below w4.heap.size w4 w4.drew) := (Below.refl _ w4).drew
  generalize w4.drew = w5 at *
  have HL : Hid (∀ u, Below w4.heap.size w4 u → (Instr.lookup 88 (.map (some c)) (.int .i64 se) false).run Tryz.prog u = .ok (.agg #[.int .i64 (n : Int), .bool cg, .bool cd]) u) := fun u hu => by
    have e := (H5.out.later H0.out.1 hu).pt.ms.look keyedI Tryz.underlying88 (zeroE18 u) H0.out.2.2.1
    rw [H0.out.2.2.2.2.2.2.1, sq_get18] at e
    exact e
  refine' take_T (i := 0) (d := 19) (v := _) rfl rfl (by kernel_rfl) (by kernel_rfl) (by kernel_rfl) (by kernel_rfl) (by kernel_rfl) (fun _ _ _ h => h) (Or.inl ⟨by rfl, ?h0⟩) (H6.out) ?_
  case h0 => intro w hSw; have t1 := Below.kept hSw H5.out.pt.c6; have t2 : w.cell? ⟨b1, 0, none⟩ = some (.int .i64 se) := Below.kept hSw (H5.out.box.cell 0); go_simp; with_reducible rfl
  simp only [sA, sB, sC]
  refine' take_T (i := 1) (d := 20) (v := _) rfl rfl (by kernel_rfl) (by kernel_rfl) (by kernel_rfl) (by kernel_rfl) (by kernel_rfl) (fun _ _ _ h => h) (Or.inl ⟨by rfl, ?h1⟩) (H6.out) ?_
  case h1 => intro w hSw; have t1 := Below.kept hSw H5.out.pt.c6; have t2 : w.cell? ⟨b1, 0, none⟩ = some (.int .i64 se) := Below.kept hSw (H5.out.box.cell 0); go_simp; with_reducible rfl
  simp only [sA, sB, sC]
  refine' take_T (i := 2) (d := 21) (v := _) rfl rfl (by kernel_rfl) (by kernel_rfl) (by kernel_rfl) (by kernel_rfl) (by kernel_rfl) (fun _ _ _ h => h) (Or.inl ⟨by rfl, ?h2⟩) (H6.out) ?_
  case h2 => intro w hSw; have t1 := Below.kept hSw H5.out.pt.c6; have t2 : w.cell? ⟨b1, 0, none⟩ = some (.int .i64 se) := Below.kept hSw (H5.out.box.cell 0); go_simp; with_reducible rfl
  simp only [sA, sB, sC]
  refine' take_T (i := 3) (d := 22) (v := _) rfl rfl (by kernel_rfl) (by kernel_rfl) (by kernel_rfl) (by kernel_rfl) (by kernel_rfl) (fun _ _ _ h => h) (Or.inl ⟨by rfl, ?h3⟩) (H6.out) ?_
  case h3 => intro w hSw; have t1 := Below.kept hSw H5.out.pt.c6; have t2 : w.cell? ⟨b1, 0, none⟩ = some (.int .i64 se) := Below.kept hSw (H5.out.box.cell 0); go_simp; with_reducible rfl
  simp only [sA, sB, sC]
  refine' take_T (i := 4) (d := 23) (v := _) rfl rfl (by kernel_rfl) (by kernel_rfl) (by kernel_rfl) (by kernel_rfl) (by kernel_rfl) (fun _ _ _ h => h) (Or.inl ⟨by rfl, ?h4⟩) (H6.out) ?_
  case h4 => intro w hSw; have t1 := Below.kept hSw H5.out.pt.c6; have t2 : w.cell? ⟨b1, 0, none⟩ = some (.int .i64 se) := Below.kept hSw (H5.out.box.cell 0); go_simp; with_reducible rfl
  simp only [sA, sB, sC]
  refine' take_T (i := 5) (d := 24) (v := _) rfl rfl (by kernel_rfl) (by kernel_rfl) (by kernel_rfl) (by kernel_rfl) (by kernel_rfl) (fun _ _ _ h => h) (Or.inl ⟨by rfl, ?h5⟩) (H6.out) ?_
  case h5 => intro w hSw; have t1 := Below.kept hSw H5.out.pt.c6; have t2 : w.cell? ⟨b1, 0, none⟩ = some (.int .i64 se) := Below.kept hSw (H5.out.box.cell 0); go_simp; with_reducible rfl
  simp only [sA, sB, sC]
  refine' take_T (i := 6) (d := 25) (v := _) rfl rfl (by kernel_rfl) (by kernel_rfl) (by kernel_rfl) (by kernel_rfl) (by kernel_rfl) (fun _ _ _ h => h) (Or.inl ⟨by rfl, ?h6⟩) (H6.out) ?_
  case h6 => intro w hSw; have t3 := HL.out _ hSw; go_simp; with_reducible rfl
  simp only [sA, sB, sC]
  refine wpAnyT_ready (rs := [7]) (by kernel_rfl) (by simp) ?_
  refine AllReadyT.cons (o := _) rfl (fun KQ hKQ => ?_) AllReadyT.nil
  go_simp
  have H7 : Hid (Below w4.heap.size w4 (w5.alloc (.cells #[.int .i64 0, .bool false, .bool false] 109))) := H6.out.alloc H6.out.size _
  refine hKQ.out _ _ (fun _ => H7.out) ?_
  clear hKQ KQ
  refine wpAnyT_ready (rs := [8]) (by kernel_rfl) (by simp) ?_
  refine AllReadyT.cons (o := _) rfl (fun KQ hKQ => ?_) AllReadyT.nil
  go_simp
  obtain ⟨b6, hb6⟩ : ∃ b, b = w5.heap.size := ⟨_, rfl⟩
  have H8 : Hid (Ct18 LT LS w (w5.alloc (.cells #[.int .i64 (n : Int), .bool cg, .bool cd] 109)) q room z wt' t lk fw fd fs F qt ql a b c Ft Fl G b1 se (.slice av N cc) clo ∧ Cb (w5.alloc (.cells #[.int .i64 (n : Int), .bool cg, .bool cd] 109)) b6 [.int .i64 (n : Int), .bool cg, .bool cd] 109 ∧ w.heap.size ≤ b6 ∧ b6 ≠ b1) := by
    have hs := H5.out.mv.size
    have hs2 := H6.out.size
    exact ⟨H5.out.later H0.out.1 (H6.out.alloc H6.out.size _), by rw [hb6]; exact Cb.made w5 _ _, by omega, fun e => by have := H5.out.box.lt; omega⟩
  rw [← hb6]
  clear hb6 H7 HL H6 H5
  generalize w5.alloc (.cells #[.int .i64 (n : Int), .bool cg, .bool cd] 109) = w6 at *
  refine hKQ.out _ _ (fun h => absurd rfl h) ?_
  clear hKQ KQ
  refine wpAnyT_done (by kernel_rfl) ?_ _
  have x2 : w6.cell? ⟨b1, 2, none⟩ = some (.bool clo) := H8.out.1.box.cell 2
  have y0 : w6.cell? ⟨b6, 0, none⟩ = some (.int .i64 (n : Int)) := H8.out.2.1.cell 0
  have y1 : w6.cell? ⟨b6, 1, none⟩ = some (.bool cg) := H8.out.2.1.cell 1
  have f0 : w6.frozen? ⟨b6, 0, none⟩ = false := H8.out.2.1.free 0
  have f1 : w6.frozen? ⟨b6, 1, none⟩ = false := H8.out.2.1.free 1
  cases clo with
  | true =>
    obtain ⟨rfl, hcg⟩ := HN.out.1 rfl
    have HG : Hid (cg' = decide (0 < by_)) := hcg
    clear hcg
    go_upto_region 6 with fail
    rw [← HG.out]
    have H9 : Hid (Ct18 LT LS w (w6.setCell ⟨b6, 1, none⟩ (.bool cg')) q room z wt' t lk fw fd fs F qt ql a b c Ft Fl G b1 se (.slice av N cc) true ∧ Cb (w6.setCell ⟨b6, 1, none⟩ (.bool cg')) b6 [.int .i64 (n' : Int), .bool cg', .bool cd] 109 ∧ w.heap.size ≤ b6) := ⟨H8.out.1.grown H0.out.1 (grownBy_setCell w6 ⟨b6, 1, none⟩ _) H8.out.2.2.1 H8.out.2.2.2, H8.out.2.1.set 1 _, H8.out.2.2.1⟩
    clear x2 y0 y1 f0 f1 H8
    generalize (w6.setCell ⟨b6, 1, none⟩ (.bool cg')) = w7 at *
    refine wp_region_T (fun w' => Below w7.heap.size w7 w') 7 (by kernel_rfl) ?_
    have H10 : Hid (Below w7.heap.size w7 w7.drew) := (Below.refl _ w7).drew
    generalize w7.drew = w8 at *
    refine' take_T (i := 0) (d := 36) (v := _) rfl rfl (by kernel_rfl) (by kernel_rfl) (by kernel_rfl) (by kernel_rfl) (by kernel_rfl) (fun _ _ _ h => h) (Or.inl ⟨by rfl, ?h0⟩) (H10.out) ?_
    case h0 => intro w hSw; have t1 := Below.kept hSw H9.out.1.pt.c6; have t2 : w.cell? ⟨b1, 0, none⟩ = some (.int .i64 se) := Below.kept hSw (H9.out.1.box.cell 0); have t3 : w.cell? ⟨b6, 0, none⟩ = some (.int .i64 (n' : Int)) := Below.kept hSw (H9.out.2.1.cell 0); have t4 : w.cell? ⟨b6, 1, none⟩ = some (.bool cg') := Below.kept hSw (H9.out.2.1.cell 1); have t5 : w.cell? ⟨b6, 2, none⟩ = some (.bool cd) := Below.kept hSw (H9.out.2.1.cell 2); go_simp; with_reducible rfl
    simp only [sA, sB, sC]
    refine' take_T (i := 1) (d := 37) (v := _) rfl rfl (by kernel_rfl) (by kernel_rfl) (by kernel_rfl) (by kernel_rfl) (by kernel_rfl) (fun _ _ _ h => h) (Or.inl ⟨by rfl, ?h1⟩) (H10.out) ?_
    case h1 => intro w hSw; have t1 := Below.kept hSw H9.out.1.pt.c6; have t2 : w.cell? ⟨b1, 0, none⟩ = some (.int .i64 se) := Below.kept hSw (H9.out.1.box.cell 0); have t3 : w.cell? ⟨b6, 0, none⟩ = some (.int .i64 (n' : Int)) := Below.kept hSw (H9.out.2.1.cell 0); have t4 : w.cell? ⟨b6, 1, none⟩ = some (.bool cg') := Below.kept hSw (H9.out.2.1.cell 1); have t5 : w.cell? ⟨b6, 2, none⟩ = some (.bool cd) := Below.kept hSw (H9.out.2.1.cell 2); go_simp; with_reducible rfl
    simp only [sA, sB, sC]
    refine' take_T (i := 2) (d := 38) (v := _) rfl rfl (by kernel_rfl) (by kernel_rfl) (by kernel_rfl) (by kernel_rfl) (by kernel_rfl) (fun _ _ _ h => h) (Or.inl ⟨by rfl, ?h2⟩) (H10.out) ?_
    case h2 => intro w hSw; have t1 := Below.kept hSw H9.out.1.pt.c6; have t2 : w.cell? ⟨b1, 0, none⟩ = some (.int .i64 se) := Below.kept hSw (H9.out.1.box.cell 0); have t3 : w.cell? ⟨b6, 0, none⟩ = some (.int .i64 (n' : Int)) := Below.kept hSw (H9.out.2.1.cell 0); have t4 : w.cell? ⟨b6, 1, none⟩ = some (.bool cg') := Below.kept hSw (H9.out.2.1.cell 1); have t5 : w.cell? ⟨b6, 2, none⟩ = some (.bool cd) := Below.kept hSw (H9.out.2.1.cell 2); go_simp; with_reducible rfl
    simp only [sA, sB, sC]
    refine' take_T (i := 3) (d := 39) (v := _) rfl rfl (by kernel_rfl) (by kernel_rfl) (by kernel_rfl) (by kernel_rfl) (by kernel_rfl) (fun _ _ _ h => h) (Or.inl ⟨by rfl, ?h3⟩) (H10.out) ?_
    case h3 => intro w hSw; have t1 := Below.kept hSw H9.out.1.pt.c6; have t2 : w.cell? ⟨b1, 0, none⟩ = some (.int .i64 se) := Below.kept hSw (H9.out.1.box.cell 0); have t3 : w.cell? ⟨b6, 0, none⟩ = some (.int .i64 (n' : Int)) := Below.kept hSw (H9.out.2.1.cell 0); have t4 : w.cell? ⟨b6, 1, none⟩ = some (.bool cg') := Below.kept hSw (H9.out.2.1.cell 1); have t5 : w.cell? ⟨b6, 2, none⟩ = some (.bool cd) := Below.kept hSw (H9.out.2.1.cell 2); go_simp; with_reducible rfl
    simp only [sA, sB, sC]
    refine' take_T (i := 4) (d := 40) (v := _) rfl rfl (by kernel_rfl) (by kernel_rfl) (by kernel_rfl) (by kernel_rfl) (by kernel_rfl) (fun _ _ _ h => h) (Or.inl ⟨by rfl, ?h4⟩) (H10.out) ?_
    case h4 => intro w hSw; have t1 := Below.kept hSw H9.out.1.pt.c6; have t2 : w.cell? ⟨b1, 0, none⟩ = some (.int .i64 se) := Below.kept hSw (H9.out.1.box.cell 0); have t3 : w.cell? ⟨b6, 0, none⟩ = some (.int .i64 (n' : Int)) := Below.kept hSw (H9.out.2.1.cell 0); have t4 : w.cell? ⟨b6, 1, none⟩ = some (.bool cg') := Below.kept hSw (H9.out.2.1.cell 1); have t5 : w.cell? ⟨b6, 2, none⟩ = some (.bool cd) := Below.kept hSw (H9.out.2.1.cell 2); go_simp; with_reducible rfl
    simp only [sA, sB, sC]
    refine' take_T (i := 5) (d := 41) (v := _) rfl rfl (by kernel_rfl) (by kernel_rfl) (by kernel_rfl) (by kernel_rfl) (by kernel_rfl) (fun _ _ _ h => h) (Or.inl ⟨by rfl, ?h5⟩) (H10.out) ?_
    case h5 => intro w hSw; have t1 := Below.kept hSw H9.out.1.pt.c6; have t2 : w.cell? ⟨b1, 0, none⟩ = some (.int .i64 se) := Below.kept hSw (H9.out.1.box.cell 0); have t3 : w.cell? ⟨b6, 0, none⟩ = some (.int .i64 (n' : Int)) := Below.kept hSw (H9.out.2.1.cell 0); have t4 : w.cell? ⟨b6, 1, none⟩ = some (.bool cg') := Below.kept hSw (H9.out.2.1.cell 1); have t5 : w.cell? ⟨b6, 2, none⟩ = some (.bool cd) := Below.kept hSw (H9.out.2.1.cell 2); go_simp; with_reducible rfl
    simp only [sA, sB, sC]
    refine' take_T (i := 6) (d := 42) (v := _) rfl rfl (by kernel_rfl) (by kernel_rfl) (by kernel_rfl) (by kernel_rfl) (by kernel_rfl) (fun _ _ _ h => h) (Or.inl ⟨by rfl, ?h6⟩) (H10.out) ?_
    case h6 => intro w hSw; have t1 := Below.kept hSw H9.out.1.pt.c6; have t2 : w.cell? ⟨b1, 0, none⟩ = some (.int .i64 se) := Below.kept hSw (H9.out.1.box.cell 0); have t3 : w.cell? ⟨b6, 0, none⟩ = some (.int .i64 (n' : Int)) := Below.kept hSw (H9.out.2.1.cell 0); have t4 : w.cell? ⟨b6, 1, none⟩ = some (.bool cg') := Below.kept hSw (H9.out.2.1.cell 1); have t5 : w.cell? ⟨b6, 2, none⟩ = some (.bool cd) := Below.kept hSw (H9.out.2.1.cell 2); go_simp; with_reducible rfl
    simp only [sA, sB, sC]
    have H11 : Hid (Ct18 LT LS w w8 q room z wt' t lk fw fd fs F qt ql a b c Ft Fl G b1 se (.slice av N cc) true ∧ Cb w8 b6 [.int .i64 (n' : Int), .bool cg', .bool cd] 109) := ⟨H9.out.1.later H0.out.1 H10.out, H9.out.2.1.below H10.out⟩
    obtain ⟨fs1, hfs1⟩ := Up.some_is fs (ikey se) (some (.agg #[.int .i64 (n' : Int), .bool cg', .bool cd]))
    have HU : Hid (Up fs (ikey se) (some (.agg #[.int .i64 (n' : Int), .bool cg', .bool cd])) fs1) := hfs1
    clear hfs1
    refine wpAnyT_ready (rs := [7]) (by kernel_rfl) (by simp) ?_
    refine AllReadyT.cons (o := _) rfl (fun KQ hKQ => ?_) AllReadyT.nil
    refine wp_storeM (.tmp 39) (.tmp 41) (.tmp 42) 88 rfl 2 109 keyedI Tryz.underlying88 rfl H11.out.1.pt.ms H0.out.2.1 (by decide) (.int .i64 se) (.agg #[.int .i64 (n' : Int), .bool cg', .bool cd]) (ikey se) rfl rfl H0.out.2.2.1 HU.out ?_
    intro w9 hm ht
    have H12 : Hid (Ct18 LT LS w w9 q room z wt' t lk fw fd fs1 F qt ql a b c Ft Fl G b1 se (.slice av N cc) true ∧ Cb w9 b6 [.int .i64 (n' : Int), .bool cg', .bool cd] 109) := ⟨H11.out.1.turn H0.out.1 ht hm, H11.out.2.keep (turned_keep ht H11.out.2.lt (fun e => by
      obtain ⟨col, hc⟩ := H11.out.1.pt.col
      have h1 := H11.out.1.old c hc.fc
      have h2 := H9.out.2.2
      omega))⟩
    clear hm ht H11 H10 H9
    refine hKQ.out _ _ (fun h => absurd rfl h) ?_
    clear hKQ KQ
    refine wpAnyT_done (by kernel_rfl) ?_ _
    have heq := fun w => sess_eq18 n' cg' cd w
    have y0 : w9.cell? ⟨b6, 0, none⟩ = some (.int .i64 (n' : Int)) := H12.out.2.cell 0
    have y1 : w9.cell? ⟨b6, 1, none⟩ = some (.bool cg') := H12.out.2.cell 1
    have y2 : w9.cell? ⟨b6, 2, none⟩ = some (.bool cd) := H12.out.2.cell 2
    cases hzz : (decide (n' = 0) && !cg' && !cd) with
    | false =>
      rw [hzz] at heq
      have HZ : Hid (sq18 n' cg' cd = some (.agg #[.int .i64 (n' : Int), .bool cg', .bool cd])) := (show sq18 n' cg' cd = some (.agg #[.int .i64 (n' : Int), .bool cg', .bool cd]) by
        unfold sq18
        rw [if_neg]
        · rfl
        · rintro ⟨rfl, rfl, rfl⟩
          cases hzz)
      clear hzz
      go_wp2
      go_end0
      refine ⟨rfl, fs1, ?_, H12.out.1.pt, H12.out.1.mv, H12.out.1.kp⟩
      rw [HZ.out]
      exact HU.out
    | true =>
      rw [hzz] at heq
      have HZ : Hid (sq18 n' cg' cd = none) := (show sq18 n' cg' cd = none by
        simp only [Bool.and_eq_true, decide_eq_true_eq, Bool.not_eq_true'] at hzz
        unfold sq18
        rw [if_pos ⟨hzz.1.1, hzz.1.2, hzz.2⟩])
      clear hzz
      go_upto_region 8 with fail
      clear y0 y1 y2 heq
      refine wp_region_T (fun w' => Below w9.heap.size w9 w') 6 (by kernel_rfl) ?_
      have H13 : Hid (Below w9.heap.size w9 w9.drew) := (Below.refl _ w9).drew
      generalize w9.drew = w10 at *
      refine' take_T (i := 0) (d := 46) (v := _) rfl rfl (by kernel_rfl) (by kernel_rfl) (by kernel_rfl) (by kernel_rfl) (by kernel_rfl) (fun _ _ _ h => h) (Or.inl ⟨by rfl, ?h0⟩) (H13.out) ?_
      case h0 => intro w hSw; have t1 := Below.kept hSw H12.out.1.pt.c6; have t2 : w.cell? ⟨b1, 0, none⟩ = some (.int .i64 se) := Below.kept hSw (H12.out.1.box.cell 0); go_simp; with_reducible rfl
      simp only [sA, sB, sC]
      refine' take_T (i := 1) (d := 47) (v := _) rfl rfl (by kernel_rfl) (by kernel_rfl) (by kernel_rfl) (by kernel_rfl) (by kernel_rfl) (fun _ _ _ h => h) (Or.inl ⟨by rfl, ?h1⟩) (H13.out) ?_
      case h1 => intro w hSw; have t1 := Below.kept hSw H12.out.1.pt.c6; have t2 : w.cell? ⟨b1, 0, none⟩ = some (.int .i64 se) := Below.kept hSw (H12.out.1.box.cell 0); go_simp; with_reducible rfl
      simp only [sA, sB, sC]
      refine' take_T (i := 2) (d := 48) (v := _) rfl rfl (by kernel_rfl) (by kernel_rfl) (by kernel_rfl) (by kernel_rfl) (by kernel_rfl) (fun _ _ _ h => h) (Or.inl ⟨by rfl, ?h2⟩) (H13.out) ?_
      case h2 => intro w hSw; have t1 := Below.kept hSw H12.out.1.pt.c6; have t2 : w.cell? ⟨b1, 0, none⟩ = some (.int .i64 se) := Below.kept hSw (H12.out.1.box.cell 0); go_simp; with_reducible rfl
      simp only [sA, sB, sC]
      refine' take_T (i := 3) (d := 49) (v := _) rfl rfl (by kernel_rfl) (by kernel_rfl) (by kernel_rfl) (by kernel_rfl) (by kernel_rfl) (fun _ _ _ h => h) (Or.inl ⟨by rfl, ?h3⟩) (H13.out) ?_
      case h3 => intro w hSw; have t1 := Below.kept hSw H12.out.1.pt.c6; have t2 : w.cell? ⟨b1, 0, none⟩ = some (.int .i64 se) := Below.kept hSw (H12.out.1.box.cell 0); go_simp; with_reducible rfl
      simp only [sA, sB, sC]
      refine' take_T (i := 4) (d := 50) (v := _) rfl rfl (by kernel_rfl) (by kernel_rfl) (by kernel_rfl) (by kernel_rfl) (by kernel_rfl) (fun _ _ _ h => h) (Or.inl ⟨by rfl, ?h4⟩) (H13.out) ?_
      case h4 => intro w hSw; have t1 := Below.kept hSw H12.out.1.pt.c6; have t2 : w.cell? ⟨b1, 0, none⟩ = some (.int .i64 se) := Below.kept hSw (H12.out.1.box.cell 0); go_simp; with_reducible rfl
      simp only [sA, sB, sC]
      refine' take_T (i := 5) (d := 51) (v := _) rfl rfl (by kernel_rfl) (by kernel_rfl) (by kernel_rfl) (by kernel_rfl) (by kernel_rfl) (fun _ _ _ h => h) (Or.inl ⟨by rfl, ?h5⟩) (H13.out) ?_
      case h5 => intro w hSw; have t1 := Below.kept hSw H12.out.1.pt.c6; have t2 : w.cell? ⟨b1, 0, none⟩ = some (.int .i64 se) := Below.kept hSw (H12.out.1.box.cell 0); go_simp; with_reducible rfl
      simp only [sA, sB, sC]
      have H14 : Hid (Ct18 LT LS w w10 q room z wt' t lk fw fd fs1 F qt ql a b c Ft Fl G b1 se (.slice av N cc) true) := H12.out.1.later H0.out.1 H13.out
      obtain ⟨fs2, hfs2⟩ := Up.some_is fs1 (ikey se) none
      have HV : Hid (Up fs1 (ikey se) none fs2) := hfs2
      clear hfs2
      refine wpAnyT_ready (rs := [6]) (by kernel_rfl) (by simp) ?_
      refine AllReadyT.cons (o := _) rfl (fun KQ hKQ => ?_) AllReadyT.nil
      refine wp_dropM (.tmp 49) (.tmp 51) 88 2 rfl 109 keyedI Tryz.underlying88 rfl H14.out.pt.ms (.int .i64 se) (ikey se) rfl H0.out.2.2.1 HV.out ?_
      intro w11 hm ht
      have H15 : Hid (Ct18 LT LS w w11 q room z wt' t lk fw fd fs2 F qt ql a b c Ft Fl G b1 se (.slice av N cc) true) := H14.out.turn H0.out.1 ht hm
      clear hm ht H14 H13 H12
      refine hKQ.out _ _ (fun h => absurd rfl h) ?_
      clear hKQ KQ
      refine wpAnyT_done (by kernel_rfl) ?_ _
      go_wp2
      go_end0
      refine ⟨rfl, fs2, ?_, H15.out.pt, H15.out.mv, H15.out.kp⟩
      rw [HZ.out]
      exact HU.out.over HV.out
  | false =>
    obtain ⟨hnn, rfl⟩ := HN.out.2 rfl
    have hwn : IntKind.wrap .i64 ((n : Int) + by_) = (n' : Int) := by
      have h1 := H0.out.2.2.2.2.2.2.2.1
      have h2 := H0.out.2.2.2.2.2.2.2.2
      rw [IntKind.wrap_i64]
      omega
    clear hnn
    go_upto_region 6 with fail
    have H9 : Hid (Ct18 LT LS w (w6.setCell ⟨b6, 0, none⟩ (.int .i64 (n' : Int))) q room z wt' t lk fw fd fs F qt ql a b c Ft Fl G b1 se (.slice av N cc) false ∧ Cb (w6.setCell ⟨b6, 0, none⟩ (.int .i64 (n' : Int))) b6 [.int .i64 (n' : Int), .bool cg', .bool cd] 109 ∧ w.heap.size ≤ b6) := ⟨H8.out.1.grown H0.out.1 (grownBy_setCell w6 ⟨b6, 0, none⟩ _) H8.out.2.2.1 H8.out.2.2.2, H8.out.2.1.set 0 _, H8.out.2.2.1⟩
    clear hwn
    clear x2 y0 y1 f0 f1 H8
    generalize (w6.setCell ⟨b6, 0, none⟩ (.int .i64 (n' : Int))) = w7 at *
    refine wp_region_T (fun w' => Below w7.heap.size w7 w') 7 (by kernel_rfl) ?_
    have H10 : Hid (Below w7.heap.size w7 w7.drew) := (Below.refl _ w7).drew
    generalize w7.drew = w8 at *
    refine' take_T (i := 0) (d := 36) (v := _) rfl rfl (by kernel_rfl) (by kernel_rfl) (by kernel_rfl) (by kernel_rfl) (by kernel_rfl) (fun _ _ _ h => h) (Or.inl ⟨by rfl, ?h0⟩) (H10.out) ?_
    case h0 => intro w hSw; have t1 := Below.kept hSw H9.out.1.pt.c6; have t2 : w.cell? ⟨b1, 0, none⟩ = some (.int .i64 se) := Below.kept hSw (H9.out.1.box.cell 0); have t3 : w.cell? ⟨b6, 0, none⟩ = some (.int .i64 (n' : Int)) := Below.kept hSw (H9.out.2.1.cell 0); have t4 : w.cell? ⟨b6, 1, none⟩ = some (.bool cg') := Below.kept hSw (H9.out.2.1.cell 1); have t5 : w.cell? ⟨b6, 2, none⟩ = some (.bool cd) := Below.kept hSw (H9.out.2.1.cell 2); go_simp; with_reducible rfl
    simp only [sA, sB, sC]
    refine' take_T (i := 1) (d := 37) (v := _) rfl rfl (by kernel_rfl) (by kernel_rfl) (by kernel_rfl) (by kernel_rfl) (by kernel_rfl) (fun _ _ _ h => h) (Or.inl ⟨by rfl, ?h1⟩) (H10.out) ?_
    case h1 => intro w hSw; have t1 := Below.kept hSw H9.out.1.pt.c6; have t2 : w.cell? ⟨b1, 0, none⟩ = some (.int .i64 se) := Below.kept hSw (H9.out.1.box.cell 0); have t3 : w.cell? ⟨b6, 0, none⟩ = some (.int .i64 (n' : Int)) := Below.kept hSw (H9.out.2.1.cell 0); have t4 : w.cell? ⟨b6, 1, none⟩ = some (.bool cg') := Below.kept hSw (H9.out.2.1.cell 1); have t5 : w.cell? ⟨b6, 2, none⟩ = some (.bool cd) := Below.kept hSw (H9.out.2.1.cell 2); go_simp; with_reducible rfl
    simp only [sA, sB, sC]
    refine' take_T (i := 2) (d := 38) (v := _) rfl rfl (by kernel_rfl) (by kernel_rfl) (by kernel_rfl) (by kernel_rfl) (by kernel_rfl) (fun _ _ _ h => h) (Or.inl ⟨by rfl, ?h2⟩) (H10.out) ?_
    case h2 => intro w hSw; have t1 := Below.kept hSw H9.out.1.pt.c6; have t2 : w.cell? ⟨b1, 0, none⟩ = some (.int .i64 se) := Below.kept hSw (H9.out.1.box.cell 0); have t3 : w.cell? ⟨b6, 0, none⟩ = some (.int .i64 (n' : Int)) := Below.kept hSw (H9.out.2.1.cell 0); have t4 : w.cell? ⟨b6, 1, none⟩ = some (.bool cg') := Below.kept hSw (H9.out.2.1.cell 1); have t5 : w.cell? ⟨b6, 2, none⟩ = some (.bool cd) := Below.kept hSw (H9.out.2.1.cell 2); go_simp; with_reducible rfl
    simp only [sA, sB, sC]
    refine' take_T (i := 3) (d := 39) (v := _) rfl rfl (by kernel_rfl) (by kernel_rfl) (by kernel_rfl) (by kernel_rfl) (by kernel_rfl) (fun _ _ _ h => h) (Or.inl ⟨by rfl, ?h3⟩) (H10.out) ?_
    case h3 => intro w hSw; have t1 := Below.kept hSw H9.out.1.pt.c6; have t2 : w.cell? ⟨b1, 0, none⟩ = some (.int .i64 se) := Below.kept hSw (H9.out.1.box.cell 0); have t3 : w.cell? ⟨b6, 0, none⟩ = some (.int .i64 (n' : Int)) := Below.kept hSw (H9.out.2.1.cell 0); have t4 : w.cell? ⟨b6, 1, none⟩ = some (.bool cg') := Below.kept hSw (H9.out.2.1.cell 1); have t5 : w.cell? ⟨b6, 2, none⟩ = some (.bool cd) := Below.kept hSw (H9.out.2.1.cell 2); go_simp; with_reducible rfl
    simp only [sA, sB, sC]
    refine' take_T (i := 4) (d := 40) (v := _) rfl rfl (by kernel_rfl) (by kernel_rfl) (by kernel_rfl) (by kernel_rfl) (by kernel_rfl) (fun _ _ _ h => h) (Or.inl ⟨by rfl, ?h4⟩) (H10.out) ?_
    case h4 => intro w hSw; have t1 := Below.kept hSw H9.out.1.pt.c6; have t2 : w.cell? ⟨b1, 0, none⟩ = some (.int .i64 se) := Below.kept hSw (H9.out.1.box.cell 0); have t3 : w.cell? ⟨b6, 0, none⟩ = some (.int .i64 (n' : Int)) := Below.kept hSw (H9.out.2.1.cell 0); have t4 : w.cell? ⟨b6, 1, none⟩ = some (.bool cg') := Below.kept hSw (H9.out.2.1.cell 1); have t5 : w.cell? ⟨b6, 2, none⟩ = some (.bool cd) := Below.kept hSw (H9.out.2.1.cell 2); go_simp; with_reducible rfl
    simp only [sA, sB, sC]
    refine' take_T (i := 5) (d := 41) (v := _) rfl rfl (by kernel_rfl) (by kernel_rfl) (by kernel_rfl) (by kernel_rfl) (by kernel_rfl) (fun _ _ _ h => h) (Or.inl ⟨by rfl, ?h5⟩) (H10.out) ?_
    case h5 => intro w hSw; have t1 := Below.kept hSw H9.out.1.pt.c6; have t2 : w.cell? ⟨b1, 0, none⟩ = some (.int .i64 se) := Below.kept hSw (H9.out.1.box.cell 0); have t3 : w.cell? ⟨b6, 0, none⟩ = some (.int .i64 (n' : Int)) := Below.kept hSw (H9.out.2.1.cell 0); have t4 : w.cell? ⟨b6, 1, none⟩ = some (.bool cg') := Below.kept hSw (H9.out.2.1.cell 1); have t5 : w.cell? ⟨b6, 2, none⟩ = some (.bool cd) := Below.kept hSw (H9.out.2.1.cell 2); go_simp; with_reducible rfl
    simp only [sA, sB, sC]
    refine' take_T (i := 6) (d := 42) (v := _) rfl rfl (by kernel_rfl) (by kernel_rfl) (by kernel_rfl) (by kernel_rfl) (by kernel_rfl) (fun _ _ _ h => h) (Or.inl ⟨by rfl, ?h6⟩) (H10.out) ?_
    case h6 => intro w hSw; have t1 := Below.kept hSw H9.out.1.pt.c6; have t2 : w.cell? ⟨b1, 0, none⟩ = some (.int .i64 se) := Below.kept hSw (H9.out.1.box.cell 0); have t3 : w.cell? ⟨b6, 0, none⟩ = some (.int .i64 (n' : Int)) := Below.kept hSw (H9.out.2.1.cell 0); have t4 : w.cell? ⟨b6, 1, none⟩ = some (.bool cg') := Below.kept hSw (H9.out.2.1.cell 1); have t5 : w.cell? ⟨b6, 2, none⟩ = some (.bool cd) := Below.kept hSw (H9.out.2.1.cell 2); go_simp; with_reducible rfl
    simp only [sA, sB, sC]
    have H11 : Hid (Ct18 LT LS w w8 q room z wt' t lk fw fd fs F qt ql a b c Ft Fl G b1 se (.slice av N cc) false ∧ Cb w8 b6 [.int .i64 (n' : Int), .bool cg', .bool cd] 109) := ⟨H9.out.1.later H0.out.1 H10.out, H9.out.2.1.below H10.out⟩
    obtain ⟨fs1, hfs1⟩ := Up.some_is fs (ikey se) (some (.agg #[.int .i64 (n' : Int), .bool cg', .bool cd]))
    have HU : Hid (Up fs (ikey se) (some (.agg #[.int .i64 (n' : Int), .bool cg', .bool cd])) fs1) := hfs1
    clear hfs1
    refine wpAnyT_ready (rs := [7]) (by kernel_rfl) (by simp) ?_
    refine AllReadyT.cons (o := _) rfl (fun KQ hKQ => ?_) AllReadyT.nil
    refine wp_storeM (.tmp 39) (.tmp 41) (.tmp 42) 88 rfl 2 109 keyedI Tryz.underlying88 rfl H11.out.1.pt.ms H0.out.2.1 (by decide) (.int .i64 se) (.agg #[.int .i64 (n' : Int), .bool cg', .bool cd]) (ikey se) rfl rfl H0.out.2.2.1 HU.out ?_
    intro w9 hm ht
    have H12 : Hid (Ct18 LT LS w w9 q room z wt' t lk fw fd fs1 F qt ql a b c Ft Fl G b1 se (.slice av N cc) false ∧ Cb w9 b6 [.int .i64 (n' : Int), .bool cg', .bool cd] 109) := ⟨H11.out.1.turn H0.out.1 ht hm, H11.out.2.keep (turned_keep ht H11.out.2.lt (fun e => by
      obtain ⟨col, hc⟩ := H11.out.1.pt.col
      have h1 := H11.out.1.old c hc.fc
      have h2 := H9.out.2.2
      omega))⟩
    clear hm ht H11 H10 H9
    refine hKQ.out _ _ (fun h => absurd rfl h) ?_
    clear hKQ KQ
    refine wpAnyT_done (by kernel_rfl) ?_ _
    have heq := fun w => sess_eq18 n' cg' cd w
    have y0 : w9.cell? ⟨b6, 0, none⟩ = some (.int .i64 (n' : Int)) := H12.out.2.cell 0
    have y1 : w9.cell? ⟨b6, 1, none⟩ = some (.bool cg') := H12.out.2.cell 1
    have y2 : w9.cell? ⟨b6, 2, none⟩ = some (.bool cd) := H12.out.2.cell 2
    cases hzz : (decide (n' = 0) && !cg' && !cd) with
    | false =>
      rw [hzz] at heq
      have HZ : Hid (sq18 n' cg' cd = some (.agg #[.int .i64 (n' : Int), .bool cg', .bool cd])) := (show sq18 n' cg' cd = some (.agg #[.int .i64 (n' : Int), .bool cg', .bool cd]) by
        unfold sq18
        rw [if_neg]
        · rfl
        · rintro ⟨rfl, rfl, rfl⟩
          cases hzz)
      clear hzz
      go_wp2
      go_end0
      refine ⟨rfl, fs1, ?_, H12.out.1.pt, H12.out.1.mv, H12.out.1.kp⟩
      rw [HZ.out]
      exact HU.out
    | true =>
      rw [hzz] at heq
      have HZ : Hid (sq18 n' cg' cd = none) := (show sq18 n' cg' cd = none by
        simp only [Bool.and_eq_true, decide_eq_true_eq, Bool.not_eq_true'] at hzz
        unfold sq18
        rw [if_pos ⟨hzz.1.1, hzz.1.2, hzz.2⟩])
      clear hzz
      go_upto_region 8 with fail
      clear y0 y1 y2 heq
      refine wp_region_T (fun w' => Below w9.heap.size w9 w') 6 (by kernel_rfl) ?_
      have H13 : Hid (Below w9.heap.size w9 w9.drew) := (Below.refl _ w9).drew
      generalize w9.drew = w10 at *
      refine' take_T (i := 0) (d := 46) (v := _) rfl rfl (by kernel_rfl) (by kernel_rfl) (by kernel_rfl) (by kernel_rfl) (by kernel_rfl) (fun _ _ _ h => h) (Or.inl ⟨by rfl, ?h0⟩) (H13.out) ?_
      case h0 => intro w hSw; have t1 := Below.kept hSw H12.out.1.pt.c6; have t2 : w.cell? ⟨b1, 0, none⟩ = some (.int .i64 se) := Below.kept hSw (H12.out.1.box.cell 0); go_simp; with_reducible rfl
      simp only [sA, sB, sC]
      refine' take_T (i := 1) (d := 47) (v := _) rfl rfl (by kernel_rfl) (by kernel_rfl) (by kernel_rfl) (by kernel_rfl) (by kernel_rfl) (fun _ _ _ h => h) (Or.inl ⟨by rfl, ?h1⟩) (H13.out) ?_
      case h1 => intro w hSw; have t1 := Below.kept hSw H12.out.1.pt.c6; have t2 : w.cell? ⟨b1, 0, none⟩ = some (.int .i64 se) := Below.kept hSw (H12.out.1.box.cell 0); go_simp; with_reducible rfl
      simp only [sA, sB, sC]
      refine' take_T (i := 2) (d := 48) (v := _) rfl rfl (by kernel_rfl) (by kernel_rfl) (by kernel_rfl) (by kernel_rfl) (by kernel_rfl) (fun _ _ _ h => h) (Or.inl ⟨by rfl, ?h2⟩) (H13.out) ?_
      case h2 => intro w hSw; have t1 := Below.kept hSw H12.out.1.pt.c6; have t2 : w.cell? ⟨b1, 0, none⟩ = some (.int .i64 se) := Below.kept hSw (H12.out.1.box.cell 0); go_simp; with_reducible rfl
      simp only [sA, sB, sC]
      refine' take_T (i := 3) (d := 49) (v := _) rfl rfl (by kernel_rfl) (by kernel_rfl) (by kernel_rfl) (by kernel_rfl) (by kernel_rfl) (fun _ _ _ h => h) (Or.inl ⟨by rfl, ?h3⟩) (H13.out) ?_
      case h3 => intro w hSw; have t1 := Below.kept hSw H12.out.1.pt.c6; have t2 : w.cell? ⟨b1, 0, none⟩ = some (.int .i64 se) := Below.kept hSw (H12.out.1.box.cell 0); go_simp; with_reducible rfl
      simp only [sA, sB, sC]
      refine' take_T (i := 4) (d := 50) (v := _) rfl rfl (by kernel_rfl) (by kernel_rfl) (by kernel_rfl) (by kernel_rfl) (by kernel_rfl) (fun _ _ _ h => h) (Or.inl ⟨by rfl, ?h4⟩) (H13.out) ?_
      case h4 => intro w hSw; have t1 := Below.kept hSw H12.out.1.pt.c6; have t2 : w.cell? ⟨b1, 0, none⟩ = some (.int .i64 se) := Below.kept hSw (H12.out.1.box.cell 0); go_simp; with_reducible rfl
      simp only [sA, sB, sC]
      refine' take_T (i := 5) (d := 51) (v := _) rfl rfl (by kernel_rfl) (by kernel_rfl) (by kernel_rfl) (by kernel_rfl) (by kernel_rfl) (fun _ _ _ h => h) (Or.inl ⟨by rfl, ?h5⟩) (H13.out) ?_
      case h5 => intro w hSw; have t1 := Below.kept hSw H12.out.1.pt.c6; have t2 : w.cell? ⟨b1, 0, none⟩ = some (.int .i64 se) := Below.kept hSw (H12.out.1.box.cell 0); go_simp; with_reducible rfl
      simp only [sA, sB, sC]
      have H14 : Hid (Ct18 LT LS w w10 q room z wt' t lk fw fd fs1 F qt ql a b c Ft Fl G b1 se (.slice av N cc) false) := H12.out.1.later H0.out.1 H13.out
      obtain ⟨fs2, hfs2⟩ := Up.some_is fs1 (ikey se) none
      have HV : Hid (Up fs1 (ikey se) none fs2) := hfs2
      clear hfs2
      refine wpAnyT_ready (rs := [6]) (by kernel_rfl) (by simp) ?_
      refine AllReadyT.cons (o := _) rfl (fun KQ hKQ => ?_) AllReadyT.nil
      refine wp_dropM (.tmp 49) (.tmp 51) 88 2 rfl 109 keyedI Tryz.underlying88 rfl H14.out.pt.ms (.int .i64 se) (ikey se) rfl H0.out.2.2.1 HV.out ?_
      intro w11 hm ht
      have H15 : Hid (Ct18 LT LS w w11 q room z wt' t lk fw fd fs2 F qt ql a b c Ft Fl G b1 se (.slice av N cc) false) := H14.out.turn H0.out.1 ht hm
      clear hm ht H14 H13 H12
      refine hKQ.out _ _ (fun h => absurd rfl h) ?_
      clear hKQ KQ
      refine wpAnyT_done (by kernel_rfl) ?_ _
      go_wp2
      go_end0
      refine ⟨rfl, fs2, ?_, H15.out.pt, H15.out.mv, H15.out.kp⟩
      rw [HZ.out]
      exact HU.out.over HV.out
end
end Go.Proofs.YtboejbjobjhajaaGreatDoor
