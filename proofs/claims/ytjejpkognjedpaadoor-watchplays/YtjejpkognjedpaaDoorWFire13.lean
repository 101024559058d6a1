/- What Fire does. -/
import Derived.Test.YtjejpkognjedpaaDoorWArm13
namespace Go.Proofs.YtjejpkognjedpaaDoor
open Go.RowKit

def evs13 (l : List Hq.Wt) : List Value := l.flatMap ev
theorem evs13_len (l : List Hq.Wt) : (evs13 l).length = l.length * 3 := by
  unfold evs13
  induction l with
  | nil => rfl
  | cons x l ih => rw [List.flatMap_cons, List.length_append, ih, List.length_cons]; simp only [ev, List.length_cons, List.length_nil]; omega
theorem evs13_app (a b : List Hq.Wt) : evs13 (a ++ b) = evs13 a ++ evs13 b := by unfold evs13; rw [List.flatMap_append]
theorem evs13_cell : ∀ (l : List Hq.Wt) (j : Nat) (x : Hq.Wt) (i : Nat) (u : Value), l[j]? = some x → (ev x)[i]? = some u → (evs13 l)[j * 3 + i]? = some u
  | [], j, x, i, u, h, _ => by simp at h
  | y :: l, 0, x, i, u, h, hu => by
    simp at h
    subst h
    have hi : i < 3 := (List.getElem?_eq_some_iff.1 hu).1
    show (ev y ++ evs13 l)[0 * 3 + i]? = some u
    rw [List.getElem?_append_left (by simp [ev]; omega)]
    simpa using hu
  | y :: l, j + 1, x, i, u, h, hu => by
    have h3 : (ev y).length = 3 := rfl
    show (ev y ++ evs13 l)[(j + 1) * 3 + i]? = some u
    rw [List.getElem?_append_right (by rw [h3]; omega), h3, show (j + 1) * 3 + i - 3 = j * 3 + i by omega]
    exact evs13_cell l j x i u (by simpa using h) hu
theorem infoEv : (Tryd.prog.info? 31).map (fun i => (i.zero, i.size, i.bytes)) = some (some (.agg #[.int .i64 0, .string ⟨#[]⟩, .int .i64 0]), 3, 32) := by kernel_rfl
theorem ev_of_row {w : World} {B : Nat} {v : Value} {es : List Hq.Wt} (h : w.ownsRow B 31 3 v es.length (evs13 es)) : Ev w v es := by
  obtain ⟨a, c, rfl, hc, ha⟩ := row_form h
  refine ⟨a, es.length, c, rfl, rfl, hc, fun e => ?_, fun j x hx => ?_⟩
  · subst e
    rcases h.2 with ⟨e, _⟩ | ⟨g, cap, cur, e, _⟩
    · exact (Value.slice.inj e).2.2
    · cases (Value.slice.inj e).1
  · have hj := (List.getElem?_eq_some_iff.1 hx).1
    obtain ⟨g, rfl⟩ := ha (by omega)
    refine ⟨g, 0, rfl, fun i u hu => ?_⟩
    have hi : i < 3 := (List.getElem?_eq_some_iff.1 hu).1
    rw [Nat.zero_add, h.cellAt _ (by omega)]
    exact evs13_cell es j x i u hx hu
/-- One more event onto an owned row. -/
theorem wpList_ev13 {ops : Array Oper} {rest : List Oper} {o : Oper} {a : Act} {Q : Exit → Act → World → Prop} (hgd : o.guard = none) (s x : Operand)
    (ho : o.op = .call { callee := .builtin .append, args := #[s, x], argTypes := #[28, 28] })
    (B : Nat) (v : Value) (l : List Hq.Wt) (y : Hq.Wt) (sb : Nat) (w : World) (hs : a.eval s = v) (hx : a.eval x = .slice (some ⟨sb, 0, none⟩) 1 1) (hown : w.ownsRow B 31 3 v l.length (evs13 l)) (hB : B ≤ w.heap.size) (hc : Cb w sb (ev y) 31) (hN : l.length ≤ 3000)
    (h : ∀ v' w', w'.ownsRow B 31 3 v' (l ++ [y]).length (evs13 (l ++ [y])) → w.grownBy w' v.ownBlock → (v'.ownBlock = v.ownBlock ∨ v'.ownBlock = some w.heap.size) → wpList Tryd.prog ops Q rest (a.put o.dst v') w') : wpList Tryd.prog ops Q (o :: rest) a w := by
  refine wpList_plain hgd fun K hK => ?_
  obtain ⟨i0, hi, hz0, hz1, hz2⟩ := info_parts infoEv
  have hcell : ∀ j u, (ev y)[j]? = some u → w.cell? ((⟨sb, 0, none⟩ : Addr).add j) = some u := fun j u hu => by
    rw [Addr.add_lit, Nat.zero_add, hc.cell j]
    exact hu
  obtain ⟨v', w', hr, h2, h3, h4, h5⟩ := run_append_own_at (P := Tryd.prog) w B 28 o.type 31 i0 _ 3 32 Tryd.underlying28 hi hz0 hz1 hz2 rfl (by decide) v l.length (evs13 l) hown ⟨sb, 0, none⟩ 1 1 (ev y) rfl hcell (by
    intro u hu
    simp only [ev, List.mem_cons, List.not_mem_nil, or_false] at hu
    rcases hu with rfl | rfl | rfl <;> rfl) (by unfold maxLen; omega) (by omega) hB
  unfold Oper.wp execOp
  simp only [ho, resolve, invoke, builtin, Sem.run_bind, Sem.run_pure, Result.andThen_ok, List.map_toArray, List.map_cons, List.map_nil, hs, hx, hr]
  refine hK _ _ (h v' w' ?_ h3 h5)
  rw [evs13_app, List.length_append]
  simpa [evs13] using h2

/-- The Parent's text, whether there is one or not. -/
theorem parent_any13 (p : ByteArray) (w : World) (hS : Pa.Std w) (hg : Pl.goodB p.data.toList = true) :
    Calls Tryd.prog 23 #[.string p] w fun e w' => ∃ b, e = .returned (.tuple #[.string (Hq.up p), .bool b]) ∧ Below w.heap.size w w' := by
  by_cases h2 : 2 ≤ (Pl.parts p.data.toList).length
  · refine (Pa.parent_yes p w hS hg h2).mono ?_
    rintro e w' ⟨x, rfl, hx, hb⟩
    have e : x = Hq.up p := by
      apply ByteArray.ext
      apply Array.toList_inj.1
      rw [hx]
      simp [Hq.up]
    rw [e]
    exact ⟨true, rfl, hb⟩
  · have hgp := Pl.good_parts hg
    have hsz : p.size = p.data.toList.length := Lib.size_eq p
    refine (Pa.parent_no p w hS (by unfold maxLen; omega) (by omega)).mono ?_
    rintro e w' ⟨rfl, hb⟩
    have e : Hq.up p = ⟨#[]⟩ := by
      unfold Hq.up Pl.parent
      have h1 := (Pl.namesB_len hgp.2.1).1
      match hp : Pl.parts p.data.toList with
      | [] => rfl
      | [a] => rfl
      | a :: b :: r => rw [hp] at h2; simp at h2
    rw [e]
    exact ⟨false, rfl, hb⟩

/-- What Fire has under way. -/
structure Fi13 (w wx : World) (q g c : Nat) (v : Value) (room : Int) (C0 : List Value) (l : List Hq.Wt) (p : ByteArray) (ch : Int) (k m : Nat) (vt : Value) : Prop where
  le : k ≤ l.length
  blk : Cb wx q [.int .i64 room, v] 49
  len : m = ((l.take k).filter fun x => !Hq.hears p ch x).length
  row : Cb wx g (wcs ((l.take k).filter fun x => !Hq.hears p ch x) ++ C0.drop (m * 3)) 54
  told : wx.ownsRow w.heap.size 31 3 vt (((l.take k).filter (Hq.hears p ch)).map (Hq.told p ch)).length (evs13 (((l.take k).filter (Hq.hears p ch)).map (Hq.told p ch)))
  grown : w.grownBy wx (some g)
section
variable {w wx wy : World} {q g c k m : Nat} {v vt : Value} {room : Int} {C0 : List Value} {l : List Hq.Wt} {p : ByteArray} {ch : Int}
theorem Fi13.later (h : Fi13 w wx q g c v room C0 l p ch k m vt) (hb : Below wx.heap.size wx wy) : Fi13 w wy q g c v room C0 l p ch k m vt :=
  ⟨h.le, h.blk.below hb, h.len, h.row.below hb, row_stays h.told fun j hj => hb.block j (h.told.lt j hj).2, grownBy_trans h.grown (grownBy_below hb)⟩
theorem Fi13.mk_ (h : Fi13 w wx q g c v room C0 l p ch k m vt) : m ≤ k := by
  rw [h.len]
  have h1 := List.length_filter_le (fun x => !Hq.hears p ch x) (l.take k)
  rw [List.length_take] at h1
  omega
theorem Fi13.at (h : Fi13 w wx q g c v room C0 l p ch k m vt) (hC : C0.take (l.length * 3) = wcs l) {x : Hq.Wt} (hx : l[k]? = some x) : wx.cell? ⟨g, k * 3, none⟩ = some (.int .i64 x.sess) ∧ wx.cell? ⟨g, k * 3 + 1, none⟩ = some (.int .i64 x.kind) ∧ wx.cell? ⟨g, k * 3 + 2, none⟩ = some (.string x.path) := by
  have hk := (List.getElem?_eq_some_iff.1 hx).1
  have hm := h.mk_
  have hl : (wcs ((l.take k).filter fun x => !Hq.hears p ch x)).length = m * 3 := by rw [wcs_len, h.len]
  have key : ∀ i u, i < 3 → (wc x)[i]? = some u → wx.cell? ⟨g, k * 3 + i, none⟩ = some u := fun i u hi hu => by
    rw [h.row.cell, List.getElem?_append_right (by rw [hl]; omega), hl, List.getElem?_drop, show m * 3 + (k * 3 + i - m * 3) = k * 3 + i by omega]
    have h1 := wcs_cell l k x i u hx hu
    rw [← hC, List.getElem?_take, if_pos (by omega)] at h1
    exact h1
  exact ⟨key 0 _ (by decide) rfl, key 1 _ (by decide) rfl, key 2 _ (by decide) rfl⟩
theorem filter_snoc13 {f : Hq.Wt → Bool} {x : Hq.Wt} (hx : l[k]? = some x) : (l.take (k + 1)).filter f = (l.take k).filter f ++ if f x then [x] else [] := by
  rw [List.take_add_one, hx, List.filter_append]
  congr 1
  cases h : f x <;> simp [h]
/-- One is told. -/
theorem Fi13.tell (h : Fi13 w wx q g c v room C0 l p ch k m vt) {x : Hq.Wt} (hx : l[k]? = some x) (hh : Hq.hears p ch x = true) {v' : Value} (hg : wx.grownBy wy vt.ownBlock) (hgw : g < w.heap.size) (hqw : q < w.heap.size)
    (ho : wy.ownsRow w.heap.size 31 3 v' (((l.take k).filter (Hq.hears p ch)).map (Hq.told p ch) ++ [Hq.told p ch x]).length (evs13 (((l.take k).filter (Hq.hears p ch)).map (Hq.told p ch) ++ [Hq.told p ch x]))) :
    Fi13 w wy q g c v room C0 l p ch (k + 1) m v' := by
  have hk := (List.getElem?_eq_some_iff.1 hx).1
  have hne : ∀ j, j < w.heap.size → vt.ownBlock ≠ some j := fun j hj e => by have := (h.told.lt j e).1; omega
  have e1 := filter_snoc13 (f := fun x => !Hq.hears p ch x) hx
  have e2 := filter_snoc13 (f := Hq.hears p ch) hx
  simp only [hh, Bool.not_true, Bool.false_eq_true, if_false, if_true, List.append_nil] at e1 e2
  have hws := h.grown.size
  refine ⟨by omega, h.blk.keep (hg.block q h.blk.lt (fun e => hne q hqw e.symm)), by rw [e1]; exact h.len, ?_, ?_, ?_⟩
  · rw [e1]
    exact h.row.keep (hg.block g h.row.lt (fun e => hne g hgw e.symm))
  · rw [e2, List.map_append]
    exact ho
  · exact ⟨hg.os.trans h.grown.os, hg.tape.trans h.grown.tape, hg.output.trans h.grown.output, Nat.le_trans hws hg.size, fun j hj e => (hg.block j (by omega) (fun e2 => hne j hj e2.symm)).trans (h.grown.block j hj e)⟩
/-- One stays. -/
theorem Fi13.stay (h : Fi13 w wx q g c v room C0 l p ch k m vt) {x : Hq.Wt} (hx : l[k]? = some x) (hh : Hq.hears p ch x = false) (hgw : g < w.heap.size) (hqg : q ≠ g) :
    Fi13 w (wx.setRow g (over (wcs ((l.take k).filter fun x => !Hq.hears p ch x) ++ C0.drop (m * 3)) (m * 3) (wc x)).toArray) q g c v room C0 l p ch (k + 1) (m + 1) vt := by
  have hk := (List.getElem?_eq_some_iff.1 hx).1
  have hm := h.mk_
  have hl : (wcs ((l.take k).filter fun x => !Hq.hears p ch x)).length = m * 3 := by rw [wcs_len, h.len]
  have hne : vt.ownBlock ≠ some g := fun e => by have := (h.told.lt g e).1; omega
  have e1 := filter_snoc13 (f := fun x => !Hq.hears p ch x) hx
  have e2 := filter_snoc13 (f := Hq.hears p ch) hx
  simp only [hh, Bool.not_false, Bool.false_eq_true, if_false, if_true, List.append_nil] at e1 e2
  have e3 : over (wcs ((l.take k).filter fun x => !Hq.hears p ch x) ++ C0.drop (m * 3)) (m * 3) (wc x) = wcs ((l.take (k + 1)).filter fun x => !Hq.hears p ch x) ++ C0.drop ((m + 1) * 3) := by
    unfold over
    rw [← hl, List.take_left, e1, wcs_app, hl]
    congr 1
    have e4 : m * 3 + (wc x).length = (m + 1) * 3 := by simp only [wc, List.length_cons, List.length_nil]; omega
    rw [e4, List.drop_append, List.drop_of_length_le (by rw [hl]; omega), hl, List.nil_append, List.drop_drop, show m * 3 + ((m + 1) * 3 - m * 3) = (m + 1) * 3 by omega]
  rw [e3]
  refine ⟨by omega, h.blk.rowed_other hqg _, by rw [e1, List.length_append, ← h.len]; rfl, h.row.rowed _, ?_, grownBy_trans h.grown (rowed_grown wx g _)⟩
  rw [e2]
  exact row_stays h.told fun j hj => setRow_other wx g j _ (fun e => hne (by rw [hj, e]))
end

theorem zero_run13 : ∀ w, (zeroValue 54).run Tryd.prog w = .ok (Value.agg #[.int .i64 0, .int .i64 0, .string ⟨#[]⟩]) w := fun w => by
  obtain ⟨i0, hi, hz0, _, _⟩ := info_parts infoWt
  simp [zeroValue, typeInfo, hi, hz0]
theorem zeros_len13 (n : Nat) : (Builtin.zeroCells (Value.agg #[.int .i64 0, .int .i64 0, .string ⟨#[]⟩]).cells n).toList.length = n * 3 := by rw [Array.length_toList, size_zeroCells]; rfl
theorem zeros_one13 (n : Nat) : ∀ v ∈ (Builtin.zeroCells (Value.agg #[.int .i64 0, .int .i64 0, .string ⟨#[]⟩]).cells n).toList, v.oneCell' = true := by
  intro v hv
  unfold Builtin.zeroCells at hv
  simp only [Array.toList_map, List.mem_map] at hv
  obtain ⟨i, _, rfl⟩ := hv
  have h3 : i % 3 = 0 ∨ i % 3 = 1 ∨ i % 3 = 2 := by omega
  show ((#[.int .i64 0, .int .i64 0, .string ⟨#[]⟩] : Array Value)[i % 3]!).oneCell' = true
  rcases h3 with e | e | e <;> rw [e] <;> rfl
set_option maxRecDepth 20000 in
set_option maxHeartbeats 8000000 in
theorem fire_some13 (q g N c : Nat) (s : Hq.St) (p : ByteArray) (ch : Int) (w : World) (hl : Lw13 w q s (.slice (some ⟨g, 0, none⟩) N c)) (hf : Hq.Fine s) (hN : N = s.l.length) (hS : Pa.Std w) (h1 : 1 ≤ ch) (h3 : ch ≤ 3) (hg : Pl.goodB p.data.toList = true) :
    Calls Tryd.prog 11 #[dptr q, .string p, .int .i64 ch] w fun e w' => ∃ F' v, e = .returned v ∧ Ev w' v (Hq.events s p ch) ∧ (∀ k, v.ownBlock = some k → w.heap.size ≤ k ∧ ¬ F' k) ∧ LWt w' q (Hq.fired s p ch) F' ∧ Moved w w' (Fw13 (.slice (some ⟨g, 0, none⟩) N c) q) F' := by
  have hrow := hl.row
  rw [← hN] at hrow
  obtain ⟨C0, hC, hcl, htk, hcm, hNc⟩ : ∃ C0 : List Value, Cb w g C0 54 ∧ C0.length = c * 3 ∧ C0.take (N * 3) = wcs s.l ∧ c ≤ maxLen ∧ N ≤ c := by
    rcases hrow.2 with ⟨e, _⟩ | ⟨g', c', cur, e, j1, j2, j3, j4, j5, j6⟩
    · cases e
    · simp only [Value.slice.injEq, Option.some.injEq, Addr.mk.injEq, and_true] at e
      obtain ⟨⟨rfl, _⟩, _, rfl⟩ := e
      exact ⟨cur.toList, by unfold Cb; rw [Array.toArray_toList]; exact j2, by simpa using j5, j6, j4, j3⟩
  have hgw := hC.lt
  have hqw := hl.blk.lt
  have hqg : q ≠ g := fun e => by have := hl.blk.apart hrow (by decide); exact this (by rw [e]; rfl)
  have hN1 : N ≤ 1000 := by rw [hN]; exact hf.len
  have hsz : p.size ≤ maxLen := by
    have e1 := (Pl.good_parts hg).2.2
    have e2 : p.size = p.data.toList.length := Lib.size_eq p
    unfold maxLen
    omega
  have HG : Hid (Calls Tryd.prog 18 #[.string p] w fun e w' => e = .returned (.bool true) ∧ Below w.heap.size w w') := by
    rw [← hg]
    exact Pa.good_any p w hS hsz
  have HPA : Hid (∀ w', Below w.heap.size w w' → Calls Tryd.prog 23 #[.string p] w' fun e w'' => ∃ b, e = .returned (.tuple #[.string (Hq.up p), .bool b]) ∧ Below w'.heap.size w' w'') := fun w' hb => parent_any13 p w' (hS.below hb) hg
  have H0 : Hid (Lw13 w q s (.slice (some ⟨g, 0, none⟩) N c) ∧ N = s.l.length ∧ C0.length = c * 3 ∧ C0.take (s.l.length * 3) = wcs s.l ∧ c ≤ maxLen ∧ g < w.heap.size ∧ q < w.heap.size ∧ q ≠ g ∧ Hq.can p ch = true ∧ Cb w g C0 54) := ⟨hl, hN, hcl, by rw [← hN]; exact htk, hcm, hgw, hqw, hqg, Hq.can_iff.2 ⟨h1, h3, hg⟩, hC⟩
  have hc1 : ¬ ch < 1 := by omega
  have hc3 : ¬ 3 < ch := by omega
  have Nc : (N : Int) ≤ (c : Int) := by omega
  have hc63 : c ≤ 9223372036854775807 := by unfold maxLen at hcm; omega
  have c0 : (0 : Int) ≤ (c : Int) := by omega
  clear hl hf hN hS h1 h3 hg hrow hC hcl htk hcm hgw hqw hqg hsz
  obtain ⟨u, hu⟩ : ∃ u, u = Hq.up p := ⟨_, rfl⟩
  rw [← hu] at HPA
  have HU : Hid (u = Hq.up p) := hu
  clear hu
  unfold dptr
  go_enter Tryd.func11, Tryd.ntmps11
  go_wp2_with fail
  refine HG.out.mono ?_
  rintro e w1 ⟨rfl, hb1⟩
  have H1 : Hid (Below w.heap.size w w1) := hb1
  clear hb1 HG
  go_wp2_with fail
  refine (HPA.out _ H1.out).mono ?_
  rintro e w2 ⟨bp, rfl, hb2⟩
  have H2 : Hid (Fi13 w w2 q g c (.slice (some ⟨g, 0, none⟩) N c) s.room C0 s.l p ch 0 0 (.slice none 0 0)) := by
    have hb := H1.out.trans (hb2.mono H1.out.size)
    exact ⟨Nat.zero_le _, H0.out.1.blk.below hb, rfl, H0.out.2.2.2.2.2.2.2.2.2.below hb, World.ownsRow_nil _ _ _ _, grownBy_below hb⟩
  clear hb2 HPA H1
  have c1 : w2.cell? ⟨q, 1, none⟩ = some (.slice (some ⟨g, 0, none⟩) N c) := H2.out.blk.cell 1
  go_wp2
  clear c1
  go_loopw [9, 10, 41] (fun t lf i wx => ∃ k m : Nat, k ≤ N ∧ i = .int .i64 (k : Int) ∧ lf = .slice (some ⟨g, 0, none⟩) m c ∧ Fi13 w wx q g c (.slice (some ⟨g, 0, none⟩) N c) s.room C0 s.l p ch k m t) (fun _ _ i _ => N - (intOf i).toNat)
  case atStart => exact ⟨0, 0, Nat.zero_le _, rfl, rfl, H2.out⟩
  case round =>
    obtain ⟨k, m, hk, rfl, rfl, hI⟩ := hrel
    have H3 : Hid (Fi13 w wr q g c (.slice (some ⟨g, 0, none⟩) N c) s.room C0 s.l p ch k m u9) := hI
    have hmk : m ≤ k := hI.mk_
    clear hI H2
    by_cases hlt : k < N
    · have hlt' : (k : Int) < (N : Int) := by omega
      have hk0 : (0 : Int) ≤ (k : Int) := by omega
      have hwk : IntKind.wrap .i64 ((k : Int) + 1) = (k : Int) + 1 := by rw [IntKind.wrap_i64]; omega
      obtain ⟨x, hx⟩ : ∃ x, s.l[k]? = some x := ⟨s.l[k]'(by rw [← H0.out.2.1]; exact hlt), List.getElem?_eq_getElem _⟩
      have HX : Hid (s.l[k]? = some x) := hx
      obtain ⟨r0, r1, r2⟩ := H3.out.at H0.out.2.2.2.1 hx
      clear hx
      obtain ⟨xb, hxb⟩ : ∃ z, z = wr.heap.size := ⟨_, rfl⟩
      have H4 : Hid (Fi13 w (wr.alloc (.cells #[.int .i64 x.sess, .int .i64 x.kind, .string x.path] 54)) q g c (.slice (some ⟨g, 0, none⟩) N c) s.room C0 s.l p ch k m u9 ∧ Cb (wr.alloc (.cells #[.int .i64 x.sess, .int .i64 x.kind, .string x.path] 54)) xb (wc x) 54 ∧ w.heap.size ≤ xb) := by
        have hb := (Below.refl _ wr).alloc (Nat.le_refl _) (.cells #[.int .i64 x.sess, .int .i64 x.kind, .string x.path] 54)
        rw [hxb]
        exact ⟨H3.out.later hb, Cb.made wr _ _, H3.out.grown.size⟩
      obtain ⟨at_, ct, ht9, j1, j2⟩ := row_form H3.out.told
      obtain ⟨E, hE⟩ : ∃ E, E = (((s.l.take k).filter (Hq.hears p ch)).map (Hq.told p ch)).length := ⟨_, rfl⟩
      rw [← hE] at ht9
      have HE : Hid (E = (((s.l.take k).filter (Hq.hears p ch)).map (Hq.told p ch)).length ∧ E ≤ 1000) := ⟨hE, by
        rw [hE, List.length_map]
        have e1 := List.length_filter_le (Hq.hears p ch) (s.l.take k)
        rw [List.length_take] at e1
        omega⟩
      subst ht9
      clear j1 j2 hE
      go_upto_region 9 with fail
      rw [← hxb]
      clear hxb r0 r1 r2 H3
      generalize (wr.alloc (.cells #[.int .i64 x.sess, .int .i64 x.kind, .string x.path] 54)) = w3 at *
      have d0 : w3.cell? ⟨xb, 0, none⟩ = some (.int .i64 x.sess) := H4.out.2.1.cell 0
      have d1 : w3.cell? ⟨xb, 1, none⟩ = some (.int .i64 x.kind) := H4.out.2.1.cell 1
      have d2 : w3.cell? ⟨xb, 2, none⟩ = some (.string x.path) := H4.out.2.1.cell 2
      have HH : Hid (Calls Tryd.prog 24 #[.agg #[.int .i64 x.sess, .int .i64 x.kind, .string x.path], .string p, .string u, .int .i64 ch] w3 fun e w' => e = .returned (.tuple #[.int .i64 (Hq.told p ch x).kind, .bool (Hq.hears p ch x)]) ∧ Below w3.heap.size w3 w') := by
        rw [HU.out]
        exact hears_any13 x p ch w3
      obtain ⟨hh, hhh⟩ : ∃ z, z = Hq.hears p ch x := ⟨_, rfl⟩
      rw [← hhh] at HH
      obtain ⟨kd, hkd⟩ : ∃ z, z = (Hq.told p ch x).kind := ⟨_, rfl⟩
      rw [← hkd] at HH
      have HK : Hid (hh = Hq.hears p ch x ∧ kd = (Hq.told p ch x).kind) := ⟨hhh, hkd⟩
      clear hhh hkd
      go_wp2_with fail
      refine HH.out.mono ?_
      rintro e w4 ⟨rfl, hb4⟩
      have H5 : Hid (Fi13 w w4 q g c (.slice (some ⟨g, 0, none⟩) N c) s.room C0 s.l p ch k m (.slice at_ E ct) ∧ Cb w4 xb (wc x) 54) := ⟨H4.out.1.later hb4, H4.out.2.1.below hb4⟩
      clear hb4 d0 d1 d2 HH
      have d0 : w4.cell? ⟨xb, 0, none⟩ = some (.int .i64 x.sess) := H5.out.2.cell 0
      have d1 : w4.cell? ⟨xb, 1, none⟩ = some (.int .i64 x.kind) := H5.out.2.cell 1
      have d2 : w4.cell? ⟨xb, 2, none⟩ = some (.string x.path) := H5.out.2.cell 2
      cases hh with
      | true =>
        obtain ⟨sb, hsb⟩ : ∃ z, z = w4.heap.size := ⟨_, rfl⟩
        have H6 : Hid (Fi13 w (w4.alloc (.cells #[.int .i64 x.sess, .string x.path, .int .i64 kd] 31)) q g c (.slice (some ⟨g, 0, none⟩) N c) s.room C0 s.l p ch k m (.slice at_ E ct) ∧ Cb (w4.alloc (.cells #[.int .i64 x.sess, .string x.path, .int .i64 kd] 31)) sb (ev (Hq.told p ch x)) 31) := by
          have hb := (Below.refl _ w4).alloc (Nat.le_refl _) (.cells #[.int .i64 x.sess, .string x.path, .int .i64 kd] 31)
          rw [hsb]
          refine ⟨H5.out.1.later hb, ?_⟩
          have e1 : ev (Hq.told p ch x) = [.int .i64 x.sess, .string x.path, .int .i64 kd] := by unfold ev; rw [← HK.out.2]; rfl
          rw [e1]
          exact Cb.made w4 _ _
        go_wp2_with (at_builtin; rw [← hsb]; refine wpList_ev13 rfl _ _ rfl w.heap.size (.slice at_ E ct) (((s.l.take k).filter (Hq.hears p ch)).map (Hq.told p ch)) (Hq.told p ch x) sb (w4.alloc (.cells #[.int .i64 x.sess, .string x.path, .int .i64 kd] 31)) rfl rfl H6.out.1.told H6.out.1.grown.size H6.out.2 (by have h1 := HE.out; omega) ?_)
        clear hsb d0 d1 d2
        generalize (w4.alloc (.cells #[.int .i64 x.sess, .string x.path, .int .i64 kd] 31)) = w5 at *
        intro v6 w6 hr6 hg6 hv6
        have H7 : Hid (Fi13 w w6 q g c (.slice (some ⟨g, 0, none⟩) N c) s.room C0 s.l p ch (k + 1) m v6) := H6.out.1.tell HX.out HK.out.1.symm hg6 H0.out.2.2.2.2.2.1 H0.out.2.2.2.2.2.2.1 (by simpa using hr6)
        obtain ⟨a6, c6, e6, j1, j2⟩ := row_form hr6
        subst e6
        clear hr6 hg6 hv6 j1 j2
        go_wp2
        go_roundw
        case rel => exact ⟨k + 1, m, by omega, by go_num, rfl, H7.out⟩
        case measure => simp [intOf]; omega
      | false =>
        obtain ⟨sb, hsb⟩ : ∃ z, z = w4.heap.size := ⟨_, rfl⟩
        have H6 : Hid (Fi13 w (w4.alloc (.cells #[.int .i64 x.sess, .int .i64 x.kind, .string x.path] 54)) q g c (.slice (some ⟨g, 0, none⟩) N c) s.room C0 s.l p ch k m (.slice at_ E ct) ∧ Cb (w4.alloc (.cells #[.int .i64 x.sess, .int .i64 x.kind, .string x.path] 54)) sb (wc x) 54) := by
          have hb := (Below.refl _ w4).alloc (Nat.le_refl _) (.cells #[.int .i64 x.sess, .int .i64 x.kind, .string x.path] 54)
          rw [hsb]
          exact ⟨H5.out.1.later hb, Cb.made w4 _ _⟩
        have hrun : ∀ ty, (Builtin.append_ #[47, 47] ty #[.slice (some ⟨g, 0, none⟩) m c, .slice (some ⟨sb, 0, none⟩) 1 1]).run Tryd.prog (w4.alloc (.cells #[.int .i64 x.sess, .int .i64 x.kind, .string x.path] 54)) = .ok (.slice (some ⟨g, 0, none⟩) (m + 1) c) ((w4.alloc (.cells #[.int .i64 x.sess, .int .i64 x.kind, .string x.path] 54)).setRow g (over (wcs ((s.l.take k).filter fun x => !Hq.hears p ch x) ++ C0.drop (m * 3)) (m * 3) (wc x)).toArray) := fun ty => by
          obtain ⟨i0, hi, hz0, hz1, hz2⟩ := info_parts infoWt
          have hsrc : Src Tryd.prog i0.size 47 (.slice (some ⟨sb, 0, none⟩) 1 1) 1 (wc x) (w4.alloc (.cells #[.int .i64 x.sess, .int .i64 x.kind, .string x.path] 54)) := by
            rw [hz1]
            exact Src.ofSlice (w4.alloc (.cells #[.int .i64 x.sess, .int .i64 x.kind, .string x.path] 54)) Tryd.underlying47 ⟨sb, 0, none⟩ 1 1 (wc x) rfl (fun j u hu => by rw [Addr.add_lit, Nat.zero_add, H6.out.2.cell j]; exact hu) (by have := wcs_one [x]; simpa [wcs] using this)
          have e1 := run_append_part (P := Tryd.prog) (w4.alloc (.cells #[.int .i64 x.sess, .int .i64 x.kind, .string x.path] 54)) 47 47 ty 54 i0 Tryd.underlying47 hi g 0 m c (.slice (some ⟨sb, 0, none⟩) 1 1) 1 (wc x) (wcs ((s.l.take k).filter fun x => !Hq.hears p ch x) ++ C0.drop (m * 3)) 54 hsrc (by omega) H6.out.1.row (by
            rw [hz1, List.length_append, wcs_len, ← H6.out.1.len, List.length_drop, H0.out.2.2.1]
            simp only [wc, List.length_cons, List.length_nil]
            omega)
          rw [hz1, Nat.zero_add] at e1
          exact e1
        go_wp2_with (at_builtin; rw [← hsb]; refine wpList_append_known (w4.alloc (.cells #[.int .i64 x.sess, .int .i64 x.kind, .string x.path] 54)) rfl _ _ 47 47 rfl (.slice (some ⟨g, 0, none⟩) m c) (.slice (some ⟨sb, 0, none⟩) 1 1) rfl rfl (hrun _) ?_)
        have H7 : Hid (Fi13 w ((w4.alloc (.cells #[.int .i64 x.sess, .int .i64 x.kind, .string x.path] 54)).setRow g (over (wcs ((s.l.take k).filter fun x => !Hq.hears p ch x) ++ C0.drop (m * 3)) (m * 3) (wc x)).toArray) q g c (.slice (some ⟨g, 0, none⟩) N c) s.room C0 s.l p ch (k + 1) (m + 1) (.slice at_ E ct)) := H6.out.1.stay HX.out HK.out.1.symm H0.out.2.2.2.2.2.1 H0.out.2.2.2.2.2.2.2.1
        clear hsb d0 d1 d2 hrun H6
        generalize (w4.alloc (.cells #[.int .i64 x.sess, .int .i64 x.kind, .string x.path] 54)).setRow g (over (wcs ((s.l.take k).filter fun x => !Hq.hears p ch x) ++ C0.drop (m * 3)) (m * 3) (wc x)).toArray = w6 at *
        go_wp2
        go_roundw
        case rel => exact ⟨k + 1, m + 1, by omega, by go_num, rfl, H7.out⟩
        case measure => simp [intOf]; omega
    · have hlt' : ¬ (k : Int) < (N : Int) := by omega
      obtain rfl : k = N := by omega
      have m0 : (0 : Int) ≤ (m : Int) := by omega
      have mN : (m : Int) ≤ (k : Int) := by omega
      have mc : (m : Int) ≤ (c : Int) := by omega
      have HT : Hid (s.l.take k = s.l) := List.take_of_length_le (by rw [← H0.out.2.1]; exact Nat.le_refl _)
      obtain ⟨at_, ct, ht9, j1, j2⟩ := row_form H3.out.told
      obtain ⟨E, hE⟩ : ∃ E, E = (((s.l.take k).filter (Hq.hears p ch)).map (Hq.told p ch)).length := ⟨_, rfl⟩
      rw [← hE] at ht9
      subst ht9
      clear j1 j2 hE
      have HL : Hid ((wcs ((s.l.take k).filter fun x => !Hq.hears p ch x)).length = m * 3 ∧ (wcs ((s.l.take k).filter fun x => !Hq.hears p ch x) ++ C0.drop (m * 3)).length = c * 3) := by
        have e1 : (wcs ((s.l.take k).filter fun x => !Hq.hears p ch x)).length = m * 3 := by rw [wcs_len, H3.out.len]
        exact ⟨e1, by rw [List.length_append, e1, List.length_drop, H0.out.2.2.1]; omega⟩
      have c1 : wr.cell? ⟨q, 1, none⟩ = some (.slice (some ⟨g, 0, none⟩) k c) := H3.out.blk.cell 1
      -- what is left behind clear
      have HEND : ∀ wy : World, (∃ D : List Value, Cb wy g D 54 ∧ D.length = c * 3 ∧ D.take (m * 3) = wcs ((s.l.take k).filter fun x => !Hq.hears p ch x)) → wr.grownBy wy (some g) →
          (∃ F', Ev (wy.setCell ⟨q, 1, none⟩ (.slice (some ⟨g, 0, none⟩) m c)) (.slice at_ E ct) (Hq.events s p ch) ∧ (∀ k, (Value.slice at_ E ct).ownBlock = some k → w.heap.size ≤ k ∧ ¬ F' k) ∧ LWt (wy.setCell ⟨q, 1, none⟩ (.slice (some ⟨g, 0, none⟩) m c)) q (Hq.fired s p ch) F' ∧ Moved w (wy.setCell ⟨q, 1, none⟩ (.slice (some ⟨g, 0, none⟩) m c)) (Fw13 (.slice (some ⟨g, 0, none⟩) k c) q) F') ∧ Cb wy q [.int .i64 s.room, .slice (some ⟨g, 0, none⟩) k c] 49 := by
        rintro wy ⟨D, hD1, hD2, hD3⟩ hgy
        have hs := grownBy_setCell wy ⟨q, 1, none⟩ (.slice (some ⟨g, 0, none⟩) m c)
        have hqg := H0.out.2.2.2.2.2.2.2.1
        have hqb : Cb wy q [.int .i64 s.room, .slice (some ⟨g, 0, none⟩) k c] 49 := H3.out.blk.keep (hgy.block q H3.out.blk.lt (by simp [hqg]))
        have htold := H3.out.told
        have hgw := H0.out.2.2.2.2.2.1
        have hqw := H0.out.2.2.2.2.2.2.1
        have htn : ∀ j, (Value.slice at_ E ct).ownBlock = some j → w.heap.size ≤ j ∧ j < wr.heap.size := fun j hj => htold.lt j hj
        have hcan := H0.out.2.2.2.2.2.2.2.2.1
        refine ⟨⟨Fw13 (.slice (some ⟨g, 0, none⟩) m c) q, ?_, fun j hj => ⟨(htn j hj).1, fun e => ?_⟩, ⟨_, ⟨?_, ?_⟩, rfl⟩, ?_⟩, hqb⟩
        · have e1 : Hq.events s p ch = ((s.l.take k).filter (Hq.hears p ch)).map (Hq.told p ch) := by unfold Hq.events; rw [hcan, HT.out]; rfl
          rw [e1]
          refine (ev_of_row htold).keep fun j hj _ => ?_
          have := htn j hj
          rw [hs.block j (Nat.lt_of_lt_of_le this.2 hgy.size) (by simp; omega), hgy.block j this.2 (by simp; omega)]
        · have := (htn j hj).1
          rcases e with e | e
          · simp only [Value.ownBlock, Option.some.injEq] at e
            omega
          · omega
        · have e1 : (Hq.fired s p ch).room = s.room := by unfold Hq.fired; rw [hcan]; rfl
          rw [e1]
          exact hqb.set 1 _
        · have e1 : (Hq.fired s p ch).l = (s.l.take k).filter fun x => !Hq.hears p ch x := by unfold Hq.fired; rw [hcan, HT.out]; rfl
          have hDs : Cb (wy.setCell ⟨q, 1, none⟩ (.slice (some ⟨g, 0, none⟩) m c)) g D 54 := hD1.keep (hs.block g hD1.lt (by simp; omega))
          rw [e1, ← H3.out.len]
          refine ⟨by rw [HL.out.1], Or.inr ⟨g, c, D.toArray, rfl, Nat.zero_le _, hDs, by omega, H0.out.2.2.2.2.1, by simpa using hD2, by simpa using hD3⟩⟩
        · have hgr := H3.out.grown
          refine ⟨hs.os.trans (hgy.os.trans hgr.os), hs.tape.trans (hgy.tape.trans hgr.tape), hs.output.trans (hgy.output.trans hgr.output), Nat.le_trans hgr.size (Nat.le_trans hgy.size hs.size), fun j hj hF => ?_, fun j hj => Or.inl ?_⟩
          · have hj1 : j ≠ q := fun e => hF (Or.inr e)
            have hj2 : j ≠ g := fun e => hF (Or.inl (by rw [e]; rfl))
            have e1 := hgr.size
            have e2 := hgy.size
            rw [hs.block j (by omega) (by simp; omega), hgy.block j (by omega) (by simp; omega), hgr.block j hj (by simp; omega)]
          · exact hj
      have HEN : Hid _ := HEND
      clear HEND
      by_cases hmN : m < k
      · have cm : ¬ c = m := by omega
        obtain ⟨zs, hzs⟩ : ∃ z, z = (Builtin.zeroCells (Value.agg #[.int .i64 0, .int .i64 0, .string ⟨#[]⟩]).cells (k - m)).toList := ⟨_, rfl⟩
        have hzl : zs.length = (k - m) * 3 := by rw [hzs]; exact zeros_len13 _
        have hcl : ∀ ty, (Builtin.clear_ #[47] ty #[.slice (some ⟨g, m * 3, none⟩) (k - m) (c - m)]).run Tryd.prog wr = .ok (.tuple #[]) (wr.setRow g (over (wcs ((s.l.take k).filter fun x => !Hq.hears p ch x) ++ C0.drop (m * 3)) (m * 3) zs).toArray) := fun ty =>
          run_clear_part (P := Tryd.prog) wr 47 54 ty (Value.agg #[.int .i64 0, .int .i64 0, .string ⟨#[]⟩]) Tryd.underlying47 zero_run13 g (m * 3) (k - m) (c - m) zs (wcs ((s.l.take k).filter fun x => !Hq.hears p ch x) ++ C0.drop (m * 3)) 54 (by omega) hzs.symm (by rw [hzs]; exact zeros_one13 _) H3.out.row (by rw [HL.out.2, hzl]; omega)
        have HY := HEN.out (wr.setRow g (over (wcs ((s.l.take k).filter fun x => !Hq.hears p ch x) ++ C0.drop (m * 3)) (m * 3) zs).toArray) ⟨_, H3.out.row.rowed _, by rw [over_len (by rw [HL.out.2, hzl]; omega), HL.out.2], by
          unfold over
          rw [← HL.out.1, List.take_left, List.append_assoc, List.take_left]⟩ (rowed_grown wr g _)
        have HZ : Hid _ := HY
        clear HY hzs hzl
        have c2 : (wr.setRow g (over (wcs ((s.l.take k).filter fun x => !Hq.hears p ch x) ++ C0.drop (m * 3)) (m * 3) zs).toArray).cell? ⟨q, 1, none⟩ = some (.slice (some ⟨g, 0, none⟩) k c) := HZ.out.2.cell 1
        have f2 : (wr.setRow g (over (wcs ((s.l.take k).filter fun x => !Hq.hears p ch x) ++ C0.drop (m * 3)) (m * 3) zs).toArray).frozen? ⟨q, 1, none⟩ = false := HZ.out.2.free 1
        obtain ⟨wy, hwy⟩ : ∃ z, z = wr.setRow g (over (wcs ((s.l.take k).filter fun x => !Hq.hears p ch x) ++ C0.drop (m * 3)) (m * 3) zs).toArray := ⟨_, rfl⟩
        rw [← hwy] at hcl c2 f2 HZ
        clear hwy
        go_wp2_with (at_builtin; refine wpList_clear_known wr rfl _ 47 rfl (.slice (some ⟨g, m * 3, none⟩) (k - m) (c - m)) rfl (hcl _) ?_)
        go_wp2
        go_ret
        obtain ⟨F', z1, z2, z3, z4⟩ := HZ.out.1
        exact ⟨F', _, rfl, z1, z2, z3, z4⟩
      · obtain rfl : m = k := by omega
        have HY := HEN.out wr ⟨_, H3.out.row, HL.out.2, by rw [← HL.out.1, List.take_left]⟩ ⟨rfl, rfl, rfl, Nat.le_refl _, fun _ _ _ => rfl⟩
        have HZ : Hid _ := HY
        clear HY
        have f2 : wr.frozen? ⟨q, 1, none⟩ = false := HZ.out.2.free 1
        have hcl : ∀ ty a c, (Builtin.clear_ #[47] ty #[.slice a 0 c]).run Tryd.prog wr = .ok (.tuple #[]) wr := fun ty a c => run_clear_none wr 47 54 ty Tryd.underlying47 a c
        by_cases hcm : c = m
        · subst hcm
          go_wp2_with (at_builtin; refine wpList_clear_known wr rfl _ 47 rfl (.slice (some ⟨g, 0, none⟩) 0 0) rfl (hcl _ _ _) ?_)
          go_wp2
          go_ret
          obtain ⟨F', z1, z2, z3, z4⟩ := HZ.out.1
          exact ⟨F', _, rfl, z1, z2, z3, z4⟩
        · go_wp2_with (at_builtin; refine wpList_clear_known wr rfl _ 47 rfl (.slice (some ⟨g, m * 3, none⟩) 0 (c - m)) rfl (hcl _ _ _) ?_)
          go_wp2
          go_ret
          obtain ⟨F', z1, z2, z3, z4⟩ := HZ.out.1
          exact ⟨F', _, rfl, z1, z2, z3, z4⟩
end Go.Proofs.YtjejpkognjedpaaDoor
