/- Checks alone: plain reckoning; what MultiChecks has under way. -/
import Derived.Test.YtfcbdjjbchcpjaaGreatDoorArg12
import Derived.Test.YtfcbdjjbchcpjaaGreatDoorOp12
import Derived.Test.YtfcbdjjbchcpjaaGreatDoorWDo11
namespace Go.Proofs.YtfcbdjjbchcpjaaGreatDoor.Tq
open Kq
def pQ : ByteArray := ⟨#[47, 113]⟩
def ck (v : Int) : O := ⟨4, pQ, ⟨#[]⟩, v, 0⟩
theorem len_named (l : List En) (u : Option ByteArray) (p : ByteArray) : (named l u p).length = l.length := by
  unfold named
  split
  · rfl
  · split
    · rfl
    · exact len_set _ _ _
theorem len_orph (l : List En) (p : ByteArray) : (orphan l p).length = l.length := by
  unfold orphan
  split
  · rfl
  · split
    · rfl
    · exact len_set _ _ _
theorem len_doo (t : Tr) (o : O) (s z : Int) : (doo t o s z).2.l.length ≤ t.l.length + 1 := by
  obtain ⟨x, t', hd⟩ : ∃ x t', doo t o s z = (x, t') := ⟨_, _, rfl⟩
  rw [hd]
  rcases doo_ok hd with ⟨_, rfl⟩ | ⟨_, _, _, ⟨_, _, _, rfl⟩ | ⟨_, _, rfl⟩ | ⟨_, n, hn, rfl⟩ | ⟨_, rfl⟩⟩
  · simp
  · show (ins _ _ _).length ≤ _
    rw [len_ins, len_named]
    exact Nat.le_refl _
  · show (orphan _ _).length ≤ _
    rw [len_orph]
    have := len_del_le t.l x.path
    omega
  · show (set _ _ _).length ≤ _
    rw [len_set]
    omega
  · simp
theorem good_q : Pl.goodB pQ.data.toList = true := by kernel_rfl
theorem up_q : up pQ = none := by kernel_rfl
theorem q_there {t : Tr} (hf : Fine11 t) (hl : (t.l.length : Int) < t.room) : ∃ n, find (doo t (mk pQ 0) 1 1).2.l pQ = some n := by
  rw [doo_top good_q (Or.inl rfl) up_q (by decide) (by decide)]
  cases h : find t.l pQ with
  | some n =>
    unfold makeAt
    rw [h]
    exact ⟨n, h⟩
  | none =>
    rw [make_yes h hl]
    exact ⟨_, by show find (ins t.l pQ _) pQ = some _; rw [find_ins _ hf.rise h, if_pos rfl]⟩
theorem good_ck {v : Int} (hv : -1 ≤ v) : Oq.good (ck v) = 0 := by
  have h1 : ¬ v < -1 := by omega
  unfold Oq.good Oq.headB Oq.hasB Oq.seqB ck
  simp [good_q, h1, ByteArray.size]
theorem doo_ck {t : Tr} {n : Kn} {v : Int} (hv : -1 ≤ v) (hn : find t.l pQ = some n) : doo t (ck v) 1 2 = if v ≠ -1 ∧ v ≠ n.ver then (fail 6, t) else (gone pQ, t) := by
  rw [doo_node (good_ck hv) (by decide) (by decide) (by show (4 : Int) ≠ 1; decide) hn]
  unfold atNode
  by_cases h : v ≠ -1 ∧ v ≠ n.ver
  · rw [if_pos ⟨Or.inr (Or.inr rfl), h⟩, if_pos h]
  · rw [if_neg (fun e => h e.2), if_neg (by show ¬ (4 : Int) = 2; decide), if_neg (by show ¬ (4 : Int) = 3; decide), if_pos (by rfl), if_neg h]
    rfl
/-- The first that does not fit, or -1. -/
def firstNo (r : Int) : List Int → Option Nat
  | [] => none
  | v :: l => if v ≠ -1 ∧ v ≠ r then some 0 else (firstNo r l).map (· + 1)
def stepNo (fo : Option Nat) (v r : Int) (j : Nat) : Option Nat := match fo with | some i => some i | none => if v ≠ -1 ∧ v ≠ r then some j else none
theorem first_snoc (r : Int) (v : Int) : ∀ l, firstNo r (l ++ [v]) = stepNo (firstNo r l) v r l.length
  | [] => by
    show (if v ≠ -1 ∧ v ≠ r then some 0 else (none : Option Nat).map (· + 1)) = _
    by_cases h : v ≠ -1 ∧ v ≠ r
    · simp only [if_pos h, firstNo, List.length_nil, stepNo]
    · simp only [if_neg h, firstNo, Option.map_none, stepNo]
  | a :: l => by
    have e1 : firstNo r (a :: l ++ [v]) = if a ≠ -1 ∧ a ≠ r then some 0 else (firstNo r (l ++ [v])).map (· + 1) := rfl
    have e2 : firstNo r (a :: l) = if a ≠ -1 ∧ a ≠ r then some 0 else (firstNo r l).map (· + 1) := rfl
    rw [e1, e2]
    by_cases h : a ≠ -1 ∧ a ≠ r
    · rw [if_pos h, if_pos h]
      rfl
    · rw [if_neg h, if_neg h, first_snoc r v l]
      unfold stepNo
      cases firstNo r l with
      | some i => rfl
      | none =>
        simp only [Option.map_none]
        split <;> simp
def numNo : Option Nat → Int
  | none => -1
  | some i => (i : Int)
theorem after_ck {t : Tr} {n : Kn} (hn : find t.l pQ = some n) : ∀ (l : List Int), (∀ v ∈ l, -1 ≤ v) → after t 1 2 (l.map ck) = t
  | [], _ => rfl
  | v :: l, h => by
    show after (doo t (ck v) 1 2).2 1 2 (l.map ck) = t
    have e : (doo t (ck v) 1 2).2 = t := by
      rw [doo_ck (h v List.mem_cons_self) hn]
      split <;> rfl
    rw [e]
    exact after_ck hn l (fun x hx => h x (List.mem_cons_of_mem _ hx))
theorem bad_ck {t : Tr} {n : Kn} (hn : find t.l pQ = some n) : ∀ (l : List Int), (∀ v ∈ l, -1 ≤ v) → bad t 1 2 (l.map ck) = (firstNo n.ver l).map fun i => (i, 6)
  | [], _ => rfl
  | v :: l, h => by
    have e1 : bad t 1 2 ((v :: l).map ck) = if (doo t (ck v) 1 2).1.err ≠ 0 then some (0, (doo t (ck v) 1 2).1.err) else (bad (doo t (ck v) 1 2).2 1 2 (l.map ck)).map fun k => (k.1 + 1, k.2) := rfl
    have e2 : firstNo n.ver (v :: l) = if v ≠ -1 ∧ v ≠ n.ver then some 0 else (firstNo n.ver l).map (· + 1) := rfl
    rw [e1, e2, doo_ck (h v List.mem_cons_self) hn]
    by_cases hc : v ≠ -1 ∧ v ≠ n.ver
    · rw [if_pos hc, if_pos hc, if_pos (by show (6 : Int) ≠ 0; decide)]
      rfl
    · rw [if_neg hc, if_neg hc, if_neg (by show ¬ (0 : Int) ≠ 0; simp), bad_ck hn l (fun x hx => h x (List.mem_cons_of_mem _ hx)), Option.map_map, Option.map_map]
      rfl
theorem many_ck {t : Tr} {n : Kn} (hn : find t.l pQ = some n) {l : List Int} (hl : ∀ v ∈ l, -1 ≤ v) (h1 : 1 ≤ l.length) (h16 : l.length ≤ 16) :
    (∀ i, firstNo n.ver l = some i → many t 1 2 (l.map ck) = ((Rq.fail 0 6 (i : Int) (l.length : Int), false), t)) ∧ (firstNo n.ver l = none → many t 1 2 (l.map ck) = ((⟨0, 2, 0, -1, says t 1 2 (l.map ck)⟩, true), t)) := by
  have hb := bad_ck hn l hl
  refine ⟨fun i hi => ?_, fun hi => ?_⟩
  · rw [hi] at hb
    have ht := turn_some hb
    rw [many_no (by rw [List.length_map]; omega) (by rw [List.length_map]; omega) (by rw [ht]), ht, List.length_map]
  · rw [hi] at hb
    have ht := turn_none hb
    rw [many_yes (by rw [List.length_map]; omega) (by rw [List.length_map]; omega) (by rw [ht]), ht, after_ck hn l hl]
end Go.Proofs.YtfcbdjjbchcpjaaGreatDoor.Tq
namespace Go.Proofs.YtfcbdjjbchcpjaaGreatDoor
open Go.RowKit
theorem fit_ck {v : Int} (hv : -1 ≤ v ∧ v ≤ 5) : OFit (Tq.ck v) := ⟨by simp [Tq.ck], by simp [Tq.ck, Tq.pQ, maxLen, ByteArray.size], by simp [Tq.ck, maxLen, ByteArray.size], by show -9223372036854775808 ≤ v ∧ v ≤ 9223372036854775807; omega, by simp [Tq.ck]⟩
theorem Ro11.less {W w : World} {F G : Nat → Prop} {q : Nat} {room : Int} {v : Value} {es : List (Tq.En × Value)} (h : Ro11 W w G q room v es) (hs : ∀ k, F k → G k) : Ro11 W w F q room v es :=
  ⟨⟨h.blk.cb, fun e => h.blk.off (hs q e)⟩, h.hi, h.row, fun k hk e => h.off k hk (hs k e), fun x hx => ⟨(h.names x hx).1, (h.names x hx).2.ss, fun hne k hk e => (h.names x hx).2.off hne k hk (hs k e)⟩⟩
/-- A tree, one of the reference's, and a row of Ops of one's own. -/
structure Ck12 (LT : Rep11) (W w : World) (q : Nat) (t : Tq.Tr) (F : Nat → Prop) (q6 : Nat) (v6 : Value) (es : List (Tq.En × Value)) (cv : Value) (cs : List O) : Prop where
  mine : Mine11 LT W w q t F
  ro : Ro11 W w (fun k => F k ∨ cv.ownBlock = some k) q6 60 v6 es
  row : w.ownsRow W.heap.size 34 5 cv cs.length (cs.flatMap oc)
  off : ∀ k, cv.ownBlock = some k → ¬ F k
section
variable {LT : Rep11} {W w w' : World} {q q6 : Nat} {t : Tq.Tr} {F : Nat → Prop} {v6 cv cv' : Value} {es : List (Tq.En × Value)} {cs : List O}
theorem Ck12.later (S : Specs11 LT) (h : Ck12 LT W w q t F q6 v6 es cv cs) (hb : Below w.heap.size w w') : Ck12 LT W w' q t F q6 v6 es cv cs :=
  ⟨h.mine.later S hb, h.ro.later hb, row_stays h.row (fun k e => hb.block k (h.row.lt k e).2), h.off⟩
theorem Ck12.push (S : Specs11 LT) (h : Ck12 LT W w q t F q6 v6 es cv cs) {o : O} (hg : w.grownBy w' cv.ownBlock) (hr : w'.ownsRow W.heap.size 34 5 cv' (cs ++ [o]).length ((cs ++ [o]).flatMap oc)) (hv : cv'.ownBlock = cv.ownBlock ∨ cv'.ownBlock = some w.heap.size) : Ck12 LT W w' q t F q6 v6 es cv' (cs ++ [o]) := by
  have hsub : ∀ k, cv'.ownBlock = some k → cv.ownBlock = some k ∨ w.heap.size ≤ k := fun k hk => by
    rcases hv with hv | hv
    · exact Or.inl (hv ▸ hk)
    · rw [hv] at hk
      simp only [Option.some.injEq] at hk
      exact Or.inr (by omega)
  have hm : Moved w w' (fun k => F k ∨ cv.ownBlock = some k) (fun k => F k ∨ cv'.ownBlock = some k) := ⟨hg.os, hg.tape, hg.output, hg.size, fun k hk hn => hg.block k hk (fun e => hn (Or.inr e.symm)), fun k hk => hk.elim (fun e => Or.inl (Or.inl e)) (fun e => (hsub k e).imp Or.inr id)⟩
  have hlt : ∀ k, F k → k < w.heap.size := fun k hk => S.lt h.mine.ld hk
  refine ⟨⟨S.keep h.mine.ld (fun k hk => hg.block k (hlt k hk) (fun e => h.off k e.symm hk)), h.mine.fine, h.mine.hi, h.mine.below.grown hg h.mine.below.size (fun k hk => (h.row.lt k hk).1)⟩, h.ro.moved hm, hr, fun k hk hF => ?_⟩
  rcases hsub k hk with e | e
  · exact h.off k e hF
  · have := hlt k hF
    omega
theorem Ck12.om (h : Ck12 LT W w q t F q6 v6 es cv cs) : Om12 w F cv cs := ⟨Ol.own h.row, fun _ k hk => h.off k hk⟩
end
end Go.Proofs.YtfcbdjjbchcpjaaGreatDoor
