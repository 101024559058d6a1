/- What the statements' own turn does to a node; nodes beside one another. -/
import Derived.Test.YtlgpjgncimcijabActs10
namespace Go.Proofs.Ytlgpjgncimcijab
open Go.RowKit

/-- A node that lies elsewhere than what has changed. -/
theorem Mine10.other {W w w' : World} {q : Nat} {n : Kq.Kn} {v : Value} {F F' : Nat → Prop} (h : Mine10 W w q n v) (hm : Moved w w' F F') (ha : ∀ k, Fn q v k → ¬ F k) (hF : ∀ k, F k → W.heap.size ≤ k) : Mine10 W w' q n v ∧ ∀ k, Fn q v k → ¬ F' k :=
  ⟨⟨h.own.keep (fun k hk => hm.block k (h.own.flt hk) (ha k hk)), h.fine, h.hi, h.below.trans (hm.below h.below.size hF)⟩, fun k hk hF2 => by
    rcases hm.sub k hF2 with e | e
    · exact ha k hk e
    · have := h.own.flt hk
      omega⟩
set_option maxRecDepth 20000 in
set_option maxHeartbeats 4000000 in
theorem turn_any10 (S : Specs10) {W w : World} {q : Nat} {n : Kq.Kn} {v : Value} (h : Mine10 W w q n v) (x : Kq.Ac) (hs : x.s.size ≤ 20000) (hm : n.names.length < 1000) :
    Calls Try.prog 6 #[dptr q, .agg #[.int .i64 x.op, .int .i64 x.n, .string x.s]] w fun e w' => ∃ v', e = .returned (.tuple #[]) ∧ Mine10 W w' q (Kq.act n x) v' ∧ Moved w w' (Fn q v) (Fn q v') := by
  have HS : Hid Specs10 := S
  have HM : Hid (Mine10 W w q n v) := h
  clear S h
  obtain ⟨op, xn, xs⟩ := x
  simp only [] at hs ⊢
  obtain ⟨p, hp⟩ : ∃ z, z = w.heap.size := ⟨_, rfl⟩
  have k1 := Cb.made w [.int .i64 op, .int .i64 xn, .string xs] 31
  have b1 := (Below.refl _ w).alloc (Nat.le_refl _) (.cells [.int .i64 op, .int .i64 xn, .string xs].toArray 31)
  rw [← hp] at k1
  go_enter Try.func6, Try.ntmps6
  go_upto_region 1 with fail
  rw [← hp]
  generalize w.alloc (.cells [.int .i64 op, .int .i64 xn, .string xs].toArray 31) = w1 at *
  have H1 : Hid (Mine10 W w1 q n v ∧ Below w.heap.size w w1) := ⟨HM.out.later b1, b1⟩
  have y0 : w1.cell? ⟨p, 0, none⟩ = some (.int .i64 op) := k1.cell 0
  have y1 : w1.cell? ⟨p, 1, none⟩ = some (.int .i64 xn) := k1.cell 1
  have y2 : w1.cell? ⟨p, 2, none⟩ = some (.string xs) := k1.cell 2
  clear k1 b1 hp
  by_cases o0 : op = 0
  · subst o0
    go_wp2_with fail
    refine (H1.out.1.write HS.out xn xs hs).mono ?_
    rintro e w5 ⟨rfl, hM, hmv⟩
    have M5 : Hid (Mine10 W w5 q (Kq.write n xn xs) v ∧ Moved w w5 (Fn q v) (Fn q v)) := ⟨hM, (Moved.of_below _ H1.out.2).trans hmv⟩
    clear hM hmv y0 y1 y2
    go_wp2
    go_end0
    exact ⟨v, rfl, M5.out⟩
  · have e0 : (op == 0) = false := by simp [o0]
    have d0 : decide (op = 0) = false := decide_eq_false o0
    by_cases o1 : op = 1
    · subst o1
      go_wp2_with fail
      refine (H1.out.1.add HS.out xs hs hm (!Kq.has n.names xs) _ rfl rfl).mono ?_
      rintro e w5 ⟨v5, rfl, hM, hmv⟩
      have M5 : Hid (Mine10 W w5 q (Kq.add n xs) v5 ∧ Moved w w5 (Fn q v) (Fn q v5)) := ⟨hM, (Moved.of_below _ H1.out.2).trans hmv⟩
      clear hM hmv y0 y1 y2
      go_wp2
      go_end0
      exact ⟨v5, rfl, M5.out⟩
    · have e1 : (op == 1) = false := by simp [o1]
      have d1 : decide (op = 1) = false := decide_eq_false o1
      have HEQ : Hid (Kq.act n ⟨op, xn, xs⟩ = Kq.remove n xs) := by
        have h : Kq.act n ⟨op, xn, xs⟩ = Kq.remove n xs := by unfold Kq.act; rw [if_neg o0, if_neg o1]
        exact h
      go_wp2_with fail
      refine (H1.out.1.remove HS.out xs hs (Kq.has n.names xs) _ rfl rfl).mono ?_
      rintro e w5 ⟨v5, rfl, hM, hmv⟩
      have M5 : Hid (Mine10 W w5 q (Kq.remove n xs) v5 ∧ Moved w w5 (Fn q v) (Fn q v5)) := ⟨hM, (Moved.of_below _ H1.out.2).trans hmv⟩
      clear hM hmv y0 y1 y2
      go_wp2
      go_end0
      exact ⟨v5, rfl, by rw [HEQ.out]; exact M5.out.1, M5.out.2⟩
/-- Two nodes beside one another. -/
structure Duo10 (W w : World) (q1 q2 : Nat) (n m : Kq.Kn) (v1 v2 : Value) : Prop where
  fst : Mine10 W w q1 n v1
  snd : Mine10 W w q2 m v2
  apart : ∀ k, Fn q1 v1 k → ¬ Fn q2 v2 k
section
variable {W w w' : World} {q1 q2 q3 : Nat} {n m n' m' z z' : Kq.Kn} {v1 v2 v1' v2' v3 v3' : Value}
theorem Duo10.turn1 (h : Duo10 W w q1 q2 n m v1 v2) (hM : Mine10 W w' q1 n' v1') (hm : Moved w w' (Fn q1 v1) (Fn q1 v1')) : Duo10 W w' q1 q2 n' m v1' v2 := by
  have h1 := h.snd.other hm (fun k hk hF => h.apart k hF hk) h.fst.hi
  exact ⟨hM, h1.1, fun k hk hF => h1.2 k hF hk⟩
theorem Duo10.turn2 (h : Duo10 W w q1 q2 n m v1 v2) (hM : Mine10 W w' q2 m' v2') (hm : Moved w w' (Fn q2 v2) (Fn q2 v2')) : Duo10 W w' q1 q2 n m' v1 v2' := by
  have h1 := h.fst.other hm h.apart h.snd.hi
  exact ⟨h1.1, hM, h1.2⟩
theorem Duo10.later (h : Duo10 W w q1 q2 n m v1 v2) (hb : Below w.heap.size w w') : Duo10 W w' q1 q2 n m v1 v2 := ⟨h.fst.later hb, h.snd.later hb, h.apart⟩
/-- A third one beside them. -/
structure Tri10 (W w : World) (q1 q2 q3 : Nat) (n m z : Kq.Kn) (v1 v2 v3 : Value) : Prop where
  duo : Duo10 W w q1 q2 n m v1 v2
  thd : Mine10 W w q3 z v3
  a1 : ∀ k, Fn q1 v1 k → ¬ Fn q3 v3 k
  a2 : ∀ k, Fn q2 v2 k → ¬ Fn q3 v3 k
theorem Tri10.turn3 (h : Tri10 W w q1 q2 q3 n m z v1 v2 v3) (hM : Mine10 W w' q3 z' v3') (hm : Moved w w' (Fn q3 v3) (Fn q3 v3')) : Tri10 W w' q1 q2 q3 n m z' v1 v2 v3' := by
  have h1 := h.duo.fst.other hm h.a1 h.thd.hi
  have h2 := h.duo.snd.other hm h.a2 h.thd.hi
  exact ⟨⟨h1.1, h2.1, h.duo.apart⟩, hM, h1.2, h2.2⟩
/-- Two new ones, written down. -/
theorem duo_made {x0 x1 x2 : World} {a1 a2 : Option Addr} {c1 c2 : Nat} (hW : Below W.heap.size W x0) (hr1 : x1.ownsRow x0.heap.size 9 1 (.slice a1 0 c1) 0 []) (hb1 : Below x0.heap.size x0 x1) (hr2 : x2.ownsRow x1.heap.size 9 1 (.slice a2 0 c2) 0 []) (hb2 : Below x1.heap.size x1 x2) (hn : n.names = []) (hf : Fine10 n) :
    Duo10 W ((x2.alloc (.cells (k10 n (.slice a1 0 c1)).toArray 28)).alloc (.cells (k10 n (.slice a2 0 c2)).toArray 28)) x2.heap.size (x2.heap.size + 1) n n (.slice a1 0 c1) (.slice a2 0 c2) := by
  have hs0 := hW.size
  have hs1 := hb1.size
  have hs2 := hb2.size
  have e1 : (x2.alloc (.cells (k10 n (.slice a1 0 c1)).toArray 28)).heap.size = x2.heap.size + 1 := by simp
  have b3 := (Below.refl _ x2).alloc (Nat.le_refl _) (.cells (k10 n (.slice a1 0 c1)).toArray 28)
  have b4 := (Below.refl _ (x2.alloc (.cells (k10 n (.slice a1 0 c1)).toArray 28))).alloc (Nat.le_refl _) (.cells (k10 n (.slice a2 0 c2)).toArray 28)
  have m1 := mine10_made (n := n) hW (hb1.trans (hb2.mono hs1)) (row_stays hr1 (fun k e => hb2.block k (hr1.lt k e).2)) hn hf
  have m2 := mine10_made (n := n) (w := x1) (w' := x2.alloc (.cells (k10 n (.slice a1 0 c1)).toArray 28)) (hW.trans (hb1.mono hs0)) (hb2.trans (b3.mono hs2)) (row_stays hr2 (fun k e => b3.block k (hr2.lt k e).2)) hn hf
  rw [e1] at m2
  refine ⟨m1.later b4, m2, fun k hk hF => ?_⟩
  rcases hk with hk | hk
  · rcases hF with hF | hF
    · omega
    · have := (hr2.lt k hF).2
      omega
  · have h1 := (hr1.lt k hk).2
    rcases hF with hF | hF
    · omega
    · have := (hr2.lt k hF).1
      omega
theorem tri_made {x1 : World} {a : Option Addr} {c : Nat} (h : Duo10 W w q1 q2 n m v1 v2) (hr : x1.ownsRow w.heap.size 9 1 (.slice a 0 c) 0 []) (hb : Below w.heap.size w x1) (hn : z.names = []) (hf : Fine10 z) :
    Tri10 W (x1.alloc (.cells (k10 z (.slice a 0 c)).toArray 28)) q1 q2 x1.heap.size n m z v1 v2 (.slice a 0 c) := by
  have hs := hb.size
  have b2 := (Below.refl _ x1).alloc (Nat.le_refl _) (.cells (k10 z (.slice a 0 c)).toArray 28)
  have key : ∀ k, k < w.heap.size → ¬ Fn x1.heap.size (.slice a 0 c) k := fun k hk hF => by
    rcases hF with hF | hF
    · omega
    · have := (hr.lt k hF).1
      omega
  exact ⟨h.later (hb.trans (b2.mono hs)), mine10_made (n := z) h.fst.below hb hr hn hf, fun k hk => key k (h.fst.own.flt hk), fun k hk => key k (h.snd.own.flt hk)⟩
end
end Go.Proofs.Ytlgpjgncimcijab
