/- What NetOrder answers: its walk. -/
import Derived.Test.YtkldecdjokfajaaLAwake9
import Derived.Deep.DeepCutAuto
import Derived.Maps.AppendAt
import Derived.Laws.AppendOwnNone
import Derived.BigQuiet
import Derived.Deep.QuietTactic
namespace Go.Proofs.Ytkldecdjokfajaa
open Go.RowKit

/-- A value is a slice of truths. -/
def Bb (w : World) (u : Value) (ts : List Bool) : Prop := ∃ av k c, u = .slice av k c ∧ k = ts.length ∧ ∀ (j : Nat) t, ts[j]? = some t → ∃ g o, av = some ⟨g, o, none⟩ ∧ w.cell? ⟨g, o + j, none⟩ = some (.bool t)
theorem Bb.below {w w' : World} {v : Value} {ts : List Bool} (h : Bb w v ts) (hb : Below w.heap.size w w') : Bb w' v ts := by
  obtain ⟨av, k, c, hv, hk, hc⟩ := h
  refine ⟨av, k, c, hv, hk, fun j z hz => ?_⟩
  obtain ⟨g, o, ha, hcell⟩ := hc j z hz
  exact ⟨g, o, ha, Below.kept hb hcell⟩
theorem Bi.at {w : World} {av : Option Addr} {k c j : Nat} {zs : List Int} {z : Int} (h : Bi w (.slice av k c) zs) (hz : zs[j]? = some z) : ∃ g o, av = some ⟨g, o, none⟩ ∧ w.cell? ⟨g, o + j, none⟩ = some (.int .i64 z) := by
  obtain ⟨av', k', c', e, _, hc⟩ := h
  simp only [Value.slice.injEq] at e
  obtain ⟨rfl, _, _⟩ := e
  exact hc j z hz
theorem Bb.at {w : World} {av : Option Addr} {k c j : Nat} {ts : List Bool} {t : Bool} (h : Bb w (.slice av k c) ts) (hz : ts[j]? = some t) : ∃ g o, av = some ⟨g, o, none⟩ ∧ w.cell? ⟨g, o + j, none⟩ = some (.bool t) := by
  obtain ⟨av', k', c', e, _, hc⟩ := h
  simp only [Value.slice.injEq] at e
  obtain ⟨rfl, _, _⟩ := e
  exact hc j t hz
theorem infoI64 : (Try.prog.info? 2).map (fun i => (i.zero, i.size, i.bytes)) = some (some (.int .i64 0), 1, 8) := by kernel_rfl
abbrev ic (zs : List Int) : List Value := zs.map (Value.int .i64)

/-- 'append(want, x...)' of numbers, wherever x lies. -/
theorem append_ints {ops : Array Oper} {rest : List Oper} {o : Oper} {a : Act} {Q : Exit → Act → World → Prop} (hgd : o.guard = none) (s x : Operand)
    (ho : o.op = .call { callee := .builtin .append, args := #[s, x], argTypes := #[28, 28] })
    (B : Nat) (v u : Value) (n : Nat) (zs ys : List Int) (w : World) (hs : a.eval s = v) (hx : a.eval x = u) (hown : w.ownsRow B 2 1 v n (ic zs)) (hB : B ≤ w.heap.size) (hb : Bi w u ys) (hu : u = .slice none 0 0 ∨ ∃ ad k c, u = .slice (some ad) k c) (hN : n + ys.length ≤ 1000000)
    (h : ∀ v' w', w'.ownsRow B 2 1 v' (n + ys.length) (ic (zs ++ ys)) → w.grownBy w' v.ownBlock → (v'.ownBlock = v.ownBlock ∨ v'.ownBlock = some w.heap.size) → wpList Try.prog ops Q rest (a.put o.dst v') w') : wpList Try.prog ops Q (o :: rest) a w := by
  obtain ⟨i0, hi, hz0, hz1, hz2⟩ := info_parts infoI64
  obtain ⟨av, k, c, rfl, hk, hc⟩ := hb
  rcases hu with e | ⟨ad, k', c', e⟩
  · simp only [Value.slice.injEq] at e
    obtain ⟨rfl, rfl, rfl⟩ := e
    obtain rfl : ys = [] := List.length_eq_zero_iff.1 hk.symm
    exact wpList_append_own_none hgd s x 28 ho B 2 i0 1 Try.underlying28 hi v n (ic zs) hs hown hx (h _ _ (by simpa using hown) ⟨rfl, rfl, rfl, Nat.le_refl _, fun _ _ _ => rfl⟩ (Or.inl rfl))
  · simp only [Value.slice.injEq] at e
    obtain ⟨rfl, _, _⟩ := e
    subst hk
    refine wpList_plain hgd fun _ hK => ?_
    have hcell : ∀ j y, (ic ys)[j]? = some y → w.cell? (ad.add j) = some y := fun j y hy => by
      rw [List.getElem?_map] at hy
      cases hz : ys[j]? with
      | none => rw [hz] at hy; cases hy
      | some z =>
        rw [hz] at hy
        simp only [Option.map_some, Option.some.injEq] at hy
        obtain ⟨g, o2, e, h1⟩ := hc j z hz
        simp only [Option.some.injEq] at e
        subst e
        have ea : (⟨g, o2, none⟩ : Addr).add j = ⟨g, o2 + j, none⟩ := by
          simp only [Addr.add]
          split <;> simp_all
        rw [← hy, ea]
        exact h1
    obtain ⟨v', w', hr, h2, h3, h4, h5⟩ := run_append_own_at (P := Try.prog) w B 28 o.type 2 i0 (.int .i64 0) 1 8 Try.underlying28 hi hz0 hz1 hz2 rfl (by decide) v n (ic zs) hown ad ys.length c (ic ys) (by simp [ic]) hcell (fun y hy => by obtain ⟨z, _, rfl⟩ := List.mem_map.1 hy; rfl) (by unfold maxLen; omega) (by omega) hB
    unfold Oper.wp execOp
    simp only [ho, resolve, invoke, builtin, Sem.run_bind, Sem.run_pure, Result.andThen_ok, List.map_toArray, List.map_cons, List.map_nil, hs, hx, hr]
    exact hK _ _ (h v' w' (by rw [show ic (zs ++ ys) = ic zs ++ ic ys from List.map_append]; exact h2) h3 h5)

theorem Mine9.grown {LN : RepN} (S : Specs9 LN) {W w w' : World} {q : Nat} {n : Nq.Nt} {F : Nat → Prop} {o : Option Nat} (h : Mine9 LN W w q n F) (hg : w.grownBy w' o) (ho : ∀ k, o = some k → ¬ F k ∧ W.heap.size ≤ k) : Mine9 LN W w' q n F :=
  ⟨S.keep h.ln (fun k hk => hg.block k (S.lt h.ln hk) (fun e => (ho k e.symm).1 hk)), h.fine, h.hi, h.below.grown hg h.below.size (fun k e => (ho k e).2)⟩

/-- Numbers of the statement's own beside a network of its own. -/
structure Want (LN : RepN) (W w : World) (q : Nat) (n : Nq.Nt) (F : Nat → Prop) (v : Value) (zs : List Int) : Prop where
  mine : Mine9 LN W w q n F
  own : w.ownsRow W.heap.size 2 1 v zs.length (ic zs)
  apart : ∀ k, v.ownBlock = some k → ¬ F k
theorem Want.moved {LN : RepN} {W w w' : World} {q : Nat} {n n' : Nq.Nt} {F F' : Nat → Prop} {v : Value} {zs : List Int} (h : Want LN W w q n F v zs) (hm : Mine9 LN W w' q n' F') (hv : Moved w w' F F') : Want LN W w' q n' F' v zs :=
  ⟨hm, row_same9 h.own (fun k e => hv.block k (h.own.lt k e).2 (h.apart k e)), fun k e hF => by
    rcases hv.sub k hF with h1 | h1
    · exact h.apart k e h1
    · have := (h.own.lt k e).2
      omega⟩
theorem Want.later {LN : RepN} (S : Specs9 LN) {W w w' : World} {q : Nat} {n : Nq.Nt} {F : Nat → Prop} {v : Value} {zs : List Int} (h : Want LN W w q n F v zs) (hb : Below w.heap.size w w') : Want LN W w' q n F v zs := h.moved (h.mine.later S hb) (Moved.of_below F hb)
theorem Want.start {LN : RepN} (S : Specs9 LN) {W w w' : World} {q : Nat} {n : Nq.Nt} {F : Nat → Prop} {v' : Value} {zs : List Int} (h : Mine9 LN W w q n F) (hg : w.grownBy w' none) (ho : w'.ownsRow W.heap.size 2 1 v' zs.length (ic zs)) (hat : v'.ownBlock = none ∨ v'.ownBlock = some w.heap.size) : Want LN W w' q n F v' zs :=
  ⟨h.grown S hg (fun k e => by cases e), ho, fun k e hF => by
    rcases hat with h1 | h1
    · rw [e] at h1; cases h1
    · rw [e] at h1
      simp only [Option.some.injEq] at h1
      have := S.lt h.ln hF
      omega⟩
theorem Want.more {LN : RepN} (S : Specs9 LN) {W w w' : World} {q : Nat} {n : Nq.Nt} {F : Nat → Prop} {v v' : Value} {zs ys : List Int} (h : Want LN W w q n F v zs) (hg : w.grownBy w' v.ownBlock) (ho : w'.ownsRow W.heap.size 2 1 v' (zs.length + ys.length) (ic (zs ++ ys))) (hat : v'.ownBlock = v.ownBlock ∨ v'.ownBlock = some w.heap.size) : Want LN W w' q n F v' (zs ++ ys) :=
  ⟨h.mine.grown S hg (fun k e => ⟨h.apart k e, (h.own.lt k e).1⟩), by rw [List.length_append]; exact ho, fun k e hF => by
    rcases hat with h1 | h1
    · exact h.apart k (h1 ▸ e) hF
    · rw [e] at h1
      simp only [Option.some.injEq] at h1
      have := S.lt h.mine.ln hF
      omega⟩

/-- A network of three nodes in which these numbers wait, a message each. -/
structure Rel (n : Nq.Nt) (zs : List Int) : Prop where
  nodes : n.nodes = 3
  room : n.room = 100
  cut : n.cut = fun _ _ => false
  ns : n.l.map (·.ns) = zs.map (fun z => [z])
theorem Rel.len {n : Nq.Nt} {zs : List Int} (h : Rel n zs) : n.l.length = zs.length := by
  have := congrArg List.length h.ns
  simpa using this
theorem Rel.put {n : Nq.Nt} {zs : List Int} (h : Rel n zs) (hl : zs.length < 100) {a b c x : Int} (ha : 0 ≤ a ∧ a < 3) (hb : 0 ≤ b ∧ b < 3) : Nq.sent n [⟨a, b, c, [x], []⟩] = 1 ∧ Rel (Nq.puts n [⟨a, b, c, [x], []⟩]) (zs ++ [x]) := by
  have hm : Nq.may n ⟨a, b, c, [x], []⟩ = true := by
    refine Nq.may_iff.2 ⟨Nq.node_iff.2 ⟨ha.1, ?_⟩, Nq.node_iff.2 ⟨hb.1, ?_⟩, ?_, ?_⟩
    · show a < (n.nodes : Int)
      rw [h.nodes]
      omega
    · show b < (n.nodes : Int)
      rw [h.nodes]
      omega
    · rw [h.cut]
    · rw [h.room, h.len]
      exact hl
  refine ⟨by unfold Nq.sent Nq.sent; rw [hm]; rfl, ?_⟩
  show Rel (Nq.put n _) _
  rw [Nq.put_yes hm]
  exact ⟨h.nodes, h.room, h.cut, by rw [List.map_append, List.map_append, h.ns]; rfl⟩
theorem Rel.at_ {n : Nq.Nt} {zs : List Int} (h : Rel n zs) {j : Nat} {z : Int} (hz : zs[j]? = some z) : Nq.has n (j : Int) = true ∧ (Nq.at_ n (j : Int)).ns = [z] := by
  have hlt := (List.getElem?_eq_some_iff.1 hz).1
  have hl := h.len
  obtain ⟨m, hm⟩ : ∃ m, n.l[j]? = some m := ⟨n.l[j]'(by omega), List.getElem?_eq_getElem _⟩
  obtain ⟨h1, h2⟩ := Nq.at_has hm
  refine ⟨h1, ?_⟩
  rw [h2]
  have e : (n.l.map (·.ns))[j]? = (zs.map (fun z => [z]))[j]? := by rw [h.ns]
  rw [List.getElem?_map, List.getElem?_map, hm, hz] at e
  simpa using e
theorem Rel.copy {n : Nq.Nt} {zs : List Int} (h : Rel n zs) (hl : zs.length < 100) {j : Nat} {z : Int} (hz : zs[j]? = some z) : Nq.mayCopy n (j : Int) = true ∧ Rel (Nq.copy n (j : Int)) (zs ++ [z]) := by
  obtain ⟨h1, h2⟩ := h.at_ hz
  have hm : Nq.mayCopy n (j : Int) = true := by
    unfold Nq.mayCopy
    rw [h1, h.len, h.room]
    simpa using hl
  refine ⟨hm, ?_⟩
  unfold Nq.copy
  rw [if_pos hm]
  exact ⟨h.nodes, h.room, h.cut, by rw [List.map_append, List.map_append, h.ns, List.map_cons, h2]; rfl⟩
theorem Rel.lose {n : Nq.Nt} {zs : List Int} {z : Int} (h : Rel n (z :: zs)) : Nq.has n 0 = true ∧ (Nq.at_ n 0).ns = [z] ∧ Rel (Nq.lose n 0) zs := by
  obtain ⟨h1, h2⟩ := h.at_ (j := 0) (z := z) rfl
  refine ⟨h1, h2, ?_⟩
  have h1' : Nq.has n 0 = true := h1
  unfold Nq.lose
  rw [if_pos h1']
  refine ⟨h.nodes, h.room, h.cut, ?_⟩
  have e := h.ns
  cases hl : n.l with
  | nil => rw [hl] at e; simp at e
  | cons m l =>
    rw [hl] at e
    simp only [List.map_cons, List.cons.injEq] at e
    show ((m :: l).eraseIdx 0).map (·.ns) = _
    exact e.2
theorem rel_made : Rel (Nq.made 3 100) [] := ⟨rfl, rfl, rfl, rfl⟩

/-- A message of one number is sent. -/
theorem Mine9.sendNum {LN : RepN} (S : Specs9 LN) {W w : World} {q g1 g2 : Nat} {n : Nq.Nt} {F : Nat → Prop} (h : Mine9 LN W w q n F) (a b c x : Int) (t1 t2 : TypeId) (z : Nat) (n' : Nq.Nt) (hz : Nq.sent n [⟨a, b, c, [x], []⟩] = z) (hn : Nq.puts n [⟨a, b, c, [x], []⟩] = n') (hg1 : g1 = w.heap.size) (hg2 : g2 = (w.alloc (.cells #[.int .i64 x] t1)).heap.size) :
    Calls Try.prog 10 #[dptr q, .slice (some ⟨g2, 0, none⟩) 1 1] ((w.alloc (.cells #[.int .i64 x] t1)).alloc (.cells #[.int .i64 a, .int .i64 b, .int .i64 c, .slice (some ⟨g1, 0, none⟩) 1 1, .slice none 0 0] t2)) fun e w' => ∃ F', e = .returned (.int .i64 (z : Int)) ∧ Mine9 LN W w' q n' F' ∧ Below w.heap.size w ((w.alloc (.cells #[.int .i64 x] t1)).alloc (.cells #[.int .i64 a, .int .i64 b, .int .i64 c, .slice (some ⟨g1, 0, none⟩) 1 1, .slice none 0 0] t2)) ∧ Moved ((w.alloc (.cells #[.int .i64 x] t1)).alloc (.cells #[.int .i64 a, .int .i64 b, .int .i64 c, .slice (some ⟨g1, 0, none⟩) 1 1, .slice none 0 0] t2)) w' F F' := by
  subst hg1 hg2
  have hb1 : Below w.heap.size w (w.alloc (.cells #[.int .i64 x] t1)) := (Below.refl _ w).alloc (Nat.le_refl _) _
  have hb2 := hb1.alloc hb1.size (.cells #[.int .i64 a, .int .i64 b, .int .i64 c, .slice (some ⟨w.heap.size, 0, none⟩) 1 1, .slice none 0 0] t2)
  have hs1 : (w.alloc (.cells #[.int .i64 x] t1)).heap.size = w.heap.size + 1 := by simp
  have hmp : Mp (w.alloc (.cells #[.int .i64 x] t1)) ⟨a, b, c, [x], []⟩ (.slice (some ⟨w.heap.size, 0, none⟩) 1 1) (.slice none 0 0) (fun k => k = w.heap.size) := by
    refine ⟨⟨_, _, _, rfl, rfl, fun j y hy => ?_⟩, Bv.nil _ _⟩
    match j, hy with
    | 0, hy =>
      simp at hy
      subst hy
      exact ⟨w.heap.size, 0, rfl, cell?_alloc_at _ _ _ _ _ _ rfl, rfl⟩
    | (j + 1), hy => simp at hy
  have hml := Ml.one (m := ⟨a, b, c, [x], []⟩) t2 hmp (fun k hk => by rw [hs1]; omega)
  refine ((h.later S hb2).send S _ _ hml (fun k hk hF => ?_) (fun k hk => ?_) (by simp) (fun m hm => ?_) z n' hz hn).mono ?_
  · have h3 := S.lt h.ln hF
    rw [hs1] at hk
    omega
  · rw [hs1] at hk
    have h4 : ((w.alloc (.cells #[.int .i64 x] t1)).alloc (.cells #[.int .i64 a, .int .i64 b, .int .i64 c, .slice (some ⟨w.heap.size, 0, none⟩) 1 1, .slice none 0 0] t2)).heap.size = w.heap.size + 2 := by simp
    rw [h4]
    omega
  · simp at hm
    subst hm
    exact ⟨by simp, by simp, by simp⟩
  · rintro e w' ⟨F', rfl, h1, h2⟩
    exact ⟨F', rfl, h1, hb2, h2⟩

set_option maxRecDepth 20000 in
set_option maxHeartbeats 4000000 in
theorem order_any9 {LN : RepN} (S : Specs9 LN) (vl vt : Value) (ls : List Int) (ts : List Bool) (W : World) (hl : Bi W vl ls) (hlz : vl = .slice none 0 0 ∨ ∃ ad k c, vl = .slice (some ad) k c) (ht : Bb W vt ts) (hll : ls.length ≤ maxLen) (htl : ts.length ≤ maxLen) :
    Calls Try.prog 5 #[vl, vt] W fun e w' => e = .returned (.bool true) ∧ Below W.heap.size W w' := by
  have HS : Hid (Specs9 LN) := S
  have HL : Hid (Bi W vl ls ∧ (vl = .slice none 0 0 ∨ ∃ ad k c, vl = .slice (some ad) k c) ∧ Bb W vt ts) := ⟨hl, hlz, ht⟩
  obtain ⟨al, nl, cl, rfl, hnl, hy1⟩ := hl
  obtain ⟨at_, nt, ct, rfl, hnt, hy2⟩ := ht
  have HN : Hid (nl = ls.length ∧ nt = ts.length) := ⟨hnl, hnt⟩
  rw [← hnl] at hll
  rw [← hnt] at htl
  unfold maxLen at hll htl
  clear S hy1 hy2 hnl hnt hlz
  obtain ⟨R, hR⟩ : ∃ R : Bool, R = decide (30 < nl ∨ nl < nt) := ⟨_, rfl⟩
  have HR : Hid (R = decide (30 < nl ∨ nl < nt)) := hR
  clear hR
  go_enter Try.func5, Try.ntmps5
  go_wp2_with fail
  refine (awake_any9 HS.out W).mono ?_
  rintro e w0 ⟨rfl, hb⟩
  have B0 : Hid (Below W.heap.size W w0) := hb
  clear hb
  go_upto_region 3 with fail
  go_cut [24] (fun x wx => x = .bool R ∧ wx = w0)
  case first =>
    by_cases h0 : 30 < nl
    · have H3 : Hid (R = true) := by
        have h : R = true := by rw [HR.out]; exact decide_eq_true (Or.inl h0)
        exact h
      have b0 : decide ((30 : Int) < (nl : Int)) = true := decide_eq_true (by omega)
      go_wp2
      go_meet
      case rel => exact ⟨by rw [H3.out], rfl⟩
    · have b0 : decide ((30 : Int) < (nl : Int)) = false := decide_eq_false (by omega)
      by_cases h1 : nl < nt
      · have H3 : Hid (R = true) := by
          have h : R = true := by rw [HR.out]; exact decide_eq_true (Or.inr h1)
          exact h
        go_wp2
        go_meet
        case rel => exact ⟨by rw [H3.out], rfl⟩
      · have H3 : Hid (R = false) := by
          have h : R = false := by rw [HR.out]; exact decide_eq_false (by omega)
          exact h
        go_wp2
        go_meet
        case rel => exact ⟨by rw [H3.out], rfl⟩
  case rest =>
    obtain ⟨rfl, hcw⟩ := hcut
    rw [hcw]
    clear hcw wc
    cases hR : R with
    | true =>
      clear hR
      go_wp2
      go_ret
      exact ⟨rfl, B0.out⟩
    | false =>
      have hin := of_decide_eq_false (HR.out.symm.trans hR)
      have HIN : Hid (nl ≤ 30 ∧ nt ≤ nl) := by
        have h : nl ≤ 30 ∧ nt ≤ nl := by omega
        exact h
      clear hR hin HR
      go_wp2_with fail
      refine (mine9_new HS.out B0.out 3 100 (by decide) (by decide)).mono ?_
      rintro e w1 ⟨q, F1, rfl, hM⟩
      have M1 : Hid (Mine9 LN W w1 q (Nq.made 3 100) F1) := hM
      clear hM
      go_wp2
      go_loopw [7] (fun i wr => ∃ k : Nat, k ≤ nl ∧ i = .int .i64 (k : Int) ∧ ∃ n F, Mine9 LN W wr q n F ∧ Rel n (ls.take k)) (fun i _ => nl - (intOf i).toNat)
      case atStart => exact ⟨0, Nat.zero_le _, rfl, _, F1, M1.out, rel_made⟩
      case round =>
        obtain ⟨k, hk, rfl, n, F, hM, hrl⟩ := hrel
        have HM : Hid (Mine9 LN W wr q n F ∧ Rel n (ls.take k)) := ⟨hM, hrl⟩
        clear hM hrl
        by_cases hlt : k < nl
        · have hlt' : (k : Int) < (nl : Int) := by omega
          have hk0 : (0 : Int) ≤ (k : Int) := by omega
          have hin := HIN.out
          obtain ⟨x, hx⟩ : ∃ x, ls[k]? = some x := ⟨ls[k]'(by rw [← HN.out.1]; exact hlt), List.getElem?_eq_getElem _⟩
          obtain ⟨gl, ol, hal, lx⟩ := (HL.out.1.below HM.out.1.below).at hx
          subst hal
          have HX : Hid (ls[k]? = some x) := hx
          have hwk : IntKind.wrap .i64 ((k : Int) + 1) = (k : Int) + 1 := by rw [IntKind.wrap_i64]; omega
          clear hx
          have HPT : Hid (Nq.sent n [⟨(k : Int) % 3, ((k : Int) + 1) % 3, 0, [x], []⟩] = 1 ∧ Rel (Nq.puts n [⟨(k : Int) % 3, ((k : Int) + 1) % 3, 0, [x], []⟩]) (ls.take (k + 1))) := by
            have h := HM.out.2.put (a := (k : Int) % 3) (b := ((k : Int) + 1) % 3) (c := 0) (x := x) (by rw [List.length_take]; omega) (by omega) (by omega)
            rw [List.take_add_one, HX.out]
            exact h
          go_wp2_with fail
          refine (HM.out.1.sendNum HS.out ((k : Int) % 3) (((k : Int) + 1) % 3) 0 x _ _ 1 _ HPT.out.1 rfl rfl (by simp)).mono ?_
          rintro e w2 ⟨F2, rfl, hM, hb2, hv2⟩
          have M2 : Hid (Mine9 LN W w2 q (Nq.puts n [⟨(k : Int) % 3, ((k : Int) + 1) % 3, 0, [x], []⟩]) F2) := hM
          clear hM hb2 hv2 lx
          go_wp2
          go_roundw
          case rel => exact ⟨k + 1, by omega, by go_num, _, F2, M2.out, HPT.out.2⟩
          case measure => simp [intOf]; omega
        · have hlt' : ¬ (k : Int) < (nl : Int) := by omega
          obtain rfl : k = nl := by omega
          have HM2 : Hid (Mine9 LN W wr q n F ∧ Rel n ls) := by
            have h := HM.out
            rw [List.take_of_length_le (by rw [← HN.out.1]; exact Nat.le_refl _)] at h
            exact h
          clear HM hlt hk
          have hin := HIN.out
          have HLB : Hid (∀ w', Below W.heap.size W w' → Bi w' (.slice al k cl) ls) := fun w' hb => HL.out.1.below hb
          go_wp2_with (at_builtin; refine append_ints rfl _ _ rfl W.heap.size (.slice none 0 0) (.slice al k cl) 0 [] ls wr rfl rfl (World.ownsRow_nil _ _ _ _) HM2.out.1.below.size (HLB.out _ HM2.out.1.below) HL.out.2.1 (by rw [← HN.out.1]; omega) ?_)
          intro v4 w4 ho4 hg4 hat4
          have HWT : Hid (Want LN W w4 q n F v4 ls ∧ Rel n ls) := ⟨Want.start HS.out HM2.out.1 hg4 (by simpa using ho4) hat4, HM2.out.2⟩
          clear ho4 hg4 hat4
          go_wp2
          go_loopw [8, 9] (fun v i wx => ∃ j : Nat, j ≤ nt ∧ i = .int .i64 (j : Int) ∧ ∃ n F zs, Want LN W wx q n F v zs ∧ Rel n zs ∧ zs.take k = ls ∧ k ≤ zs.length ∧ zs.length ≤ k + j) (fun _ i _ => nt - (intOf i).toNat)
          case atStart => exact ⟨0, Nat.zero_le _, rfl, n, F, ls, HWT.out.1, HWT.out.2, List.take_of_length_le (by rw [← HN.out.1]; exact Nat.le_refl _), by rw [← HN.out.1]; exact Nat.le_refl _, by rw [← HN.out.1]; exact Nat.le_refl _⟩
          case round =>
            obtain ⟨j, hj, rfl, n5, F5, zs, hwt, hrl, hzt, hzl, hzu⟩ := hrel
            have HW5 : Hid (Want LN W wr q n5 F5 u8 zs ∧ Rel n5 zs ∧ zs.take k = ls ∧ k ≤ zs.length ∧ zs.length ≤ k + j) := ⟨hwt, hrl, hzt, hzl, hzu⟩
            clear hwt hrl hzt hzl hzu
            by_cases hlt : j < nt
            · have hlt' : (j : Int) < (nt : Int) := by omega
              have hj0 : (0 : Int) ≤ (j : Int) := by omega
              have hjk : (j : Int) < (k : Int) := by omega
              have hwk : IntKind.wrap .i64 ((j : Int) + 1) = (j : Int) + 1 := by rw [IntKind.wrap_i64]; omega
              obtain ⟨t, ht⟩ : ∃ t, ts[j]? = some t := ⟨ts[j]'(by rw [← HN.out.2]; exact hlt), List.getElem?_eq_getElem _⟩
              obtain ⟨gt, ot, hat, lt⟩ := (HL.out.2.2.below HW5.out.1.mine.below).at ht
              subst hat
              clear ht
              cases t with
              | false =>
                go_wp2
                go_roundw
                case rel => exact ⟨j + 1, by omega, by go_num, n5, F5, zs, HW5.out.1, HW5.out.2.1, HW5.out.2.2.1, HW5.out.2.2.2.1, by have := HW5.out.2.2.2.2; omega⟩
                case measure => simp [intOf]; omega
              | true =>
                obtain ⟨x, hx⟩ : ∃ x, ls[j]? = some x := ⟨ls[j]'(by rw [← HN.out.1]; omega), List.getElem?_eq_getElem _⟩
                have HX : Hid (ls[j]? = some x) := hx
                have HZJ : Hid (zs[j]? = some x) := by
                  have h := hx
                  rw [← HW5.out.2.2.1, List.getElem?_take, if_pos (by omega)] at h
                  exact h
                have HCP : Hid (Nq.mayCopy n5 (j : Int) = true ∧ Rel (Nq.copy n5 (j : Int)) (zs ++ [x])) := HW5.out.2.1.copy (by have := HW5.out.2.2.2.2; omega) HZJ.out
                clear hx
                go_wp2_with fail
                refine (HW5.out.1.mine.copy HS.out (j : Int) true _ HCP.out.1 rfl).mono ?_
                rintro e w6 ⟨F6, rfl, hM, hv6⟩
                have HW6 : Hid (Want LN W w6 q (Nq.copy n5 (j : Int)) F6 u8 zs) := HW5.out.1.moved hM hv6
                obtain ⟨gl, ol, hal, lx⟩ := (HLB.out _ HW6.out.mine.below).at HX.out
                subst hal
                clear hM hv6 lt
                have HB7 : Hid (Below w6.heap.size w6 (w6.alloc (.cells #[.int .i64 x] 2))) := (Below.refl _ w6).alloc (Nat.le_refl _) _
                have HBI : Hid (Bi (w6.alloc (.cells #[.int .i64 x] 2)) (.slice (some ⟨w6.heap.size, 0, none⟩) 1 1) [x]) := by
                  refine ⟨_, _, _, rfl, rfl, fun i y hy => ?_⟩
                  match i, hy with
                  | 0, hy =>
                    simp at hy
                    subst hy
                    exact ⟨w6.heap.size, 0, rfl, cell?_alloc_at _ _ _ _ _ _ rfl⟩
                  | (i + 1), hy => simp at hy
                have HW7 : Hid (Want LN W (w6.alloc (.cells #[.int .i64 x] 2)) q (Nq.copy n5 (j : Int)) F6 u8 zs) := HW6.out.later HS.out HB7.out
                go_wp2_with (at_builtin; refine append_ints rfl _ _ rfl W.heap.size u8 (.slice (some ⟨w6.heap.size, 0, none⟩) 1 1) zs.length zs [x] (w6.alloc (.cells #[.int .i64 x] 2)) rfl rfl HW7.out.own HW7.out.mine.below.size HBI.out (Or.inr ⟨_, _, _, rfl⟩) (by have := HW5.out.2.2.2.2; simp; omega) ?_)
                intro v8 w8 ho8 hg8 hat8
                have HW8 : Hid (Want LN W w8 q (Nq.copy n5 (j : Int)) F6 v8 (zs ++ [x])) := HW7.out.more HS.out hg8 (by simpa [ic] using ho8) (by simpa using hat8)
                clear ho8 hg8 hat8 lx
                go_wp2
                go_roundw
                case rel => exact ⟨j + 1, by omega, by go_num, _, F6, zs ++ [x], HW8.out, HCP.out.2, by rw [List.take_append_of_le_length HW5.out.2.2.2.1]; exact HW5.out.2.2.1, by have := HW5.out.2.2.2.1; simp; omega, by have := HW5.out.2.2.2.2; simp; omega⟩
                case measure => simp [intOf]; omega
            · have hlt' : ¬ (j : Int) < (nt : Int) := by omega
              obtain ⟨N, hN⟩ : ∃ N, N = zs.length := ⟨_, rfl⟩
              have HNZ : Hid (N = zs.length ∧ N ≤ 60) := ⟨hN, by rw [hN]; have := HW5.out.2.2.2.2; omega⟩
              obtain ⟨aw, cw, hu8, haw⟩ := row_shape9 HW5.out.1.own
              subst hu8
              have HAW : Hid (0 < N → ∃ g, aw = some ⟨g, 0, none⟩) := by rw [hN]; exact haw
              have HW9 : Hid (Want LN W wr q n5 F5 (.slice aw N cw) zs ∧ Rel n5 zs) := by
                have h := HW5.out
                rw [← hN] at h
                exact ⟨h.1, h.2.1⟩
              rw [← hN]
              clear haw hN HW5 hlt hj
              go_wp2
              go_loopw [10] (fun i wx => ∃ p : Nat, p ≤ N ∧ i = .int .i64 (p : Int) ∧ ∃ n F, Want LN W wx q n F (.slice aw N cw) zs ∧ Rel n (zs.drop p)) (fun i _ => N - (intOf i).toNat)
              case atStart => exact ⟨0, Nat.zero_le _, rfl, n5, F5, HW9.out.1, HW9.out.2⟩
              case round =>
                obtain ⟨p, hp, rfl, n6, F6, hwt, hrl⟩ := hrel
                have HW6 : Hid (Want LN W wr q n6 F6 (.slice aw N cw) zs ∧ Rel n6 (zs.drop p)) := ⟨hwt, hrl⟩
                clear hwt hrl
                by_cases hpn : p < N
                · have hpn' : (p : Int) < (N : Int) := by omega
                  have hp0 : (0 : Int) ≤ (p : Int) := by omega
                  have hn60 := HNZ.out.2
                  have hwk : IntKind.wrap .i64 ((p : Int) + 1) = (p : Int) + 1 := by rw [IntKind.wrap_i64]; omega
                  obtain ⟨z, hz⟩ : ∃ z, zs[p]? = some z := ⟨zs[p]'(by rw [← HNZ.out.1]; exact hpn), List.getElem?_eq_getElem _⟩
                  have HZP : Hid (zs[p]? = some z) := hz
                  have HLS : Hid (Nq.has n6 0 = true ∧ (Nq.at_ n6 0).ns = [z] ∧ Rel (Nq.lose n6 0) (zs.drop (p + 1))) := by
                    obtain ⟨hlt2, hz2⟩ := List.getElem?_eq_some_iff.1 hz
                    have h := HW6.out.2
                    rw [List.drop_eq_getElem_cons hlt2, hz2] at h
                    exact h.lose
                  obtain ⟨m, hm⟩ : ∃ m, m = Nq.at_ n6 0 := ⟨_, rfl⟩
                  have HMN : Hid (m = Nq.at_ n6 0 ∧ m.ns = [z]) := ⟨hm, by rw [hm]; exact HLS.out.2.1⟩
                  obtain ⟨gw, hgw⟩ := HAW.out (by omega)
                  subst hgw
                  clear hz hm
                  go_wp2_with fail
                  refine (HW6.out.1.mine.take HS.out 0 m true _ HMN.out.1.symm HLS.out.1 rfl).mono ?_
                  rintro e w7 ⟨F7, a, b, rfl, hpp, hM, hv7⟩
                  have HW7 : Hid (Want LN W w7 q (Nq.lose n6 0) F7 (.slice (some ⟨gw, 0, none⟩) N cw) zs) := HW6.out.1.moved hM hv7
                  have HNV : Hid (Nv w7 a m.ns (fun j => newer wr j ∨ F6 j)) := hpp.ns
                  obtain ⟨bv, kb, cb, rfl, hn3, hn4⟩ := hpp.bs
                  clear hpp hM hv7 hn3 hn4
                  have hnv := HNV.out
                  rw [HMN.out.2] at hnv
                  obtain ⟨av, ka, ca, rfl, hka, hcz⟩ := hnv
                  obtain ⟨ga, oa, hav, lz, _⟩ := hcz 0 z rfl
                  have hka1 : ka = 1 := hka
                  subst hav hka1
                  clear hka hcz
                  unfold mv
                  have HBA : Hid (Below w7.heap.size w7 (w7.alloc (.cells #[.int .i64 m.fr, .int .i64 m.to, .int .i64 m.kind, .slice (some ⟨ga, oa, none⟩) 1 ca, .slice bv kb cb] 31))) := (Below.refl _ w7).alloc (Nat.le_refl _) _
                  have HW8 : Hid (Want LN W (w7.alloc (.cells #[.int .i64 m.fr, .int .i64 m.to, .int .i64 m.kind, .slice (some ⟨ga, oa, none⟩) 1 ca, .slice bv kb cb] 31)) q (Nq.lose n6 0) F7 (.slice (some ⟨gw, 0, none⟩) N cw) zs) := HW7.out.later HS.out HBA.out
                  have l3 : (w7.alloc (.cells #[.int .i64 m.fr, .int .i64 m.to, .int .i64 m.kind, .slice (some ⟨ga, oa, none⟩) 1 ca, .slice bv kb cb] 31)).cell? ⟨w7.heap.size, 3, none⟩ = some (.slice (some ⟨ga, oa, none⟩) 1 ca) := cell?_alloc_at _ _ _ _ _ _ rfl
                  have lz2 : (w7.alloc (.cells #[.int .i64 m.fr, .int .i64 m.to, .int .i64 m.kind, .slice (some ⟨ga, oa, none⟩) 1 ca, .slice bv kb cb] 31)).cell? ⟨ga, oa, none⟩ = some (.int .i64 z) := Below.kept HBA.out lz
                  have lw : (w7.alloc (.cells #[.int .i64 m.fr, .int .i64 m.to, .int .i64 m.kind, .slice (some ⟨ga, oa, none⟩) 1 ca, .slice bv kb cb] 31)).cell? ⟨gw, p, none⟩ = some (.int .i64 z) := by
                    have hO := HW8.out.own
                    rw [← HNZ.out.1] at hO
                    rw [hO.cellAt p (by omega), List.getElem?_map, HZP.out]
                    rfl
                  clear lz
                  have hzz : (z != z) = false := by simp
                  go_upto_region 24 with fail
                  generalize w7.alloc (.cells #[.int .i64 m.fr, .int .i64 m.to, .int .i64 m.kind, .slice (some ⟨ga, oa, none⟩) 1 ca, .slice bv kb cb] 31) = wz at *
                  go_quiet (fail)
                  have HWE : Hid (Want LN W (wz.drewN nq) q (Nq.lose n6 0) F7 (.slice (some ⟨gw, 0, none⟩) N cw) zs) := HW8.out.later HS.out (below_drewN (Below.refl _ _) _)
                  clear l3 lz2 lw
                  go_wp2
                  go_roundw
                  case rel => exact ⟨p + 1, by omega, by go_num, _, F7, HWE.out, HLS.out.2.2⟩
                  case measure => simp [intOf]; omega
                · have hpn' : ¬ (p : Int) < (N : Int) := by omega
                  have HL0 : Hid (n6.l.length = 0) := by
                    have h : n6.l.length = 0 := by rw [HW6.out.2.len, List.drop_eq_nil_iff.2 (by rw [← HNZ.out.1]; omega)]; rfl
                    exact h
                  go_wp2_with fail
                  refine (HW6.out.1.mine.len HS.out 0 HL0.out).mono ?_
                  rintro e w7 ⟨rfl, hM, hb7⟩
                  have M7 : Hid (Mine9 LN W w7 q n6 F6) := hM
                  clear hM hb7
                  go_wp2
                  go_ret
                  exact ⟨rfl, M7.out.below⟩
end Go.Proofs.Ytkldecdjokfajaa
