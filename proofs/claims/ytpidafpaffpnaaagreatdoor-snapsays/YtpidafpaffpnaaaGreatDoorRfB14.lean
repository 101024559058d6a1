/- The reference's tree while it changes: its block, its row of entries; entries behind entries. What the reference's At answers: a path's place in its tree, is it there. What the reference's lay leaves: one more entry, at its place. A list of entries by their places, plainly: no program. What the reference's Load answers, and leaves. -/
import Derived.Test.YtpidafpaffpnaaaGreatDoorRfA14
import Derived.Test.YtpidafpaffpnaaaGreatDoorWnd
import Derived.BigQuiet
import Derived.Laws.StructEq
import Derived.Laws.ResultCell
import Derived.Deep.Cut
import Derived.Test.YtpidafpaffpnaaaGreatDoorLibQ14
import Derived.Test.YtpidafpaffpnaaaGreatDoorLjr
namespace Go.Proofs.YtpidafpaffpnaaaGreatDoor
open Go.RowKit

theorem es11_app (a b : List (Tq.En × Value)) : es11 (a ++ b) = es11 a ++ es11 b := by unfold es11; rw [List.flatMap_append]
/-- Each one's names are a slice. -/
def Sl12 (es : List (Tq.En × Value)) : Prop := ∀ x ∈ es, ∃ a L c, x.2 = .slice a L c
theorem es11_one {es : List (Tq.En × Value)} (h : Sl12 es) : ∀ u ∈ es11 es, u.oneCell' = true := by
  intro u hu
  unfold es11 at hu
  obtain ⟨x, hx, hu⟩ := List.mem_flatMap.1 hu
  obtain ⟨a, L, c, e⟩ := h x hx
  unfold e11 k10 at hu
  rw [e] at hu
  simp only [List.mem_cons, List.not_mem_nil, or_false] at hu
  rcases hu with rfl | rfl | rfl | rfl | rfl | rfl | rfl | rfl | rfl | rfl | rfl <;> rfl
/-- A slice of entries, wherever it lies. -/
def Sen12 (w : World) (u : Value) (es : List (Tq.En × Value)) : Prop := (u = .slice none 0 0 ∧ es = []) ∨ ∃ g o c, u = .slice (some ⟨g, o, none⟩) es.length c ∧ ∀ (j : Nat) y, (es11 es)[j]? = some y → w.cell? ⟨g, o + j, none⟩ = some y
theorem Sen12.below {w w' : World} {u : Value} {es : List (Tq.En × Value)} (h : Sen12 w u es) (hb : Below w.heap.size w w') : Sen12 w' u es := by
  rcases h with h | ⟨g, o, c, h1, h2⟩
  · exact Or.inl h
  · exact Or.inr ⟨g, o, c, h1, fun j y hy => Below.kept hb (h2 j y hy)⟩

theorem wp_ents12 {o : Oper} {a : Act} {K : Act → World → Prop} {Q : Exit → Act → World → Prop} (s x : Operand)
    (ho : o.op = .call { callee := .builtin .append, args := #[s, x], argTypes := #[29, 29] })
    (B : Nat) (v u : Value) (es ms : List (Tq.En × Value)) (w : World) (hs : a.eval s = v) (hx : a.eval x = u) (hown : w.ownsRow B 105 11 v es.length (es11 es)) (hB : B ≤ w.heap.size) (hb : Sen12 w u ms) (hl : Sl12 ms) (hN : es.length + ms.length ≤ 3000)
    (h : ∀ v' w', w'.ownsRow B 105 11 v' (es ++ ms).length (es11 (es ++ ms)) → Below B w w' → w.grownBy w' v.ownBlock → K (a.put o.dst v') w') : o.wp Tryz.prog a w K Q := by
  obtain ⟨i0, hi, hz0, hz1, hz2⟩ := info_parts infoEntry11
  rcases hb with ⟨rfl, rfl⟩ | ⟨g, ob, c, rfl, hcs⟩
  · have hrun := run_append_owned_none (P := Tryz.prog) (w := w) B 29 o.type 105 i0 11 Tryz.underlying29 hi v es.length (es11 es) hown
    have hx2 : a.eval x = .slice none 0 0 := hx
    unfold Oper.wp
    simp [execOp, ho, resolve, invoke, builtin, hs, hx2, hrun, Result.andThen]
    exact h v w (by simpa using hown) (Below.refl _ _) ⟨rfl, rfl, rfl, Nat.le_refl _, fun _ _ _ => rfl⟩
  · refine wp_append_own w s x 29 ho B 105 i0 _ 11 120 Tryz.underlying29 hi hz0 hz1 hz2 rfl (by decide) v es.length (es11 es) hs hown ⟨g, ob, none⟩ ms.length c (es11 ms) hx (es11_len ms) ?_ (es11_one hl) (by unfold maxLen; omega) (by omega) hB ?_
    · intro j y hy
      rw [Addr.add_lit]
      exact hcs j y hy
    · intro v' w' ho' hg _
      exact h v' w' (by rw [es11_app, List.length_append]; exact ho') ((Below.refl _ w).grown hg hB (fun k hk => (hown.lt k hk).1)) hg

/-- A node's names, off the blocks F. -/
structure Nmo (w : World) (F : Nat → Prop) (v : Value) (l : List ByteArray) : Prop where
  nm : Nm w v l
  off : l ≠ [] → Off11 F v
theorem Nmo.sm {w : World} {F : Nat → Prop} {v : Value} {l : List ByteArray} (h : Nmo w F v l) : Sm w F v l := ⟨h.nm.ss, h.off⟩
theorem Nmo.moved {w w' : World} {F F' : Nat → Prop} {v : Value} {l : List ByteArray} (h : Nmo w F v l) (hm : Moved w w' F F') : Nmo w' F' v l := by
  refine ⟨?_, (h.sm.moved hm).off⟩
  rcases h.nm with e | ⟨g, o, c, e, h1, h2⟩
  · exact Or.inl e
  · refine Or.inr ⟨g, o, c, e, h1, fun j s hs => ?_⟩
    have hne : l ≠ [] := fun e2 => by rw [e2] at hs; simp at hs
    have h3 := h2 j s hs
    exact (World.cell?_of_block (hm.block g (World.block_lt_of_cell? w _ h3) (h.off hne g (by rw [e]; rfl)))).trans h3
theorem Nmo.later {w w' : World} {F : Nat → Prop} {v : Value} {l : List ByteArray} (h : Nmo w F v l) (hb : Below w.heap.size w w') : Nmo w' F v l := ⟨h.nm.below hb, h.off⟩
theorem Sen12.one {w : World} {sb : Nat} {x : Tq.En × Value} (h : Cb w sb (e11 x.1 x.2) 105) : Sen12 w (.slice (some ⟨sb, 0, none⟩) 1 1) [x] := by
  refine Or.inr ⟨sb, 0, 1, rfl, fun j y hy => ?_⟩
  have e : es11 [x] = e11 x.1 x.2 := by unfold es11; simp
  rw [e] at hy
  rw [Nat.zero_add, h.cell j]
  exact hy
theorem Sen12.grown {w w' : World} {g c : Nat} {x : Tq.En × Value} {row : Option Nat} (h : Sen12 w (.slice (some ⟨g, 0, none⟩) 1 c) [x]) (hg : w.grownBy w' row) (hne : row ≠ some g) : Sen12 w' (.slice (some ⟨g, 0, none⟩) 1 c) [x] := by
  rcases h with ⟨h1, _⟩ | ⟨g', o, c', h1, h2⟩
  · cases h1
  · simp only [Value.slice.injEq, Option.some.injEq, Addr.mk.injEq, and_true] at h1
    obtain ⟨⟨rfl, rfl⟩, _, rfl⟩ := h1
    refine Or.inr ⟨g, 0, c, rfl, fun j s hs => ?_⟩
    have h3 := h2 j s hs
    have hlt := World.block_lt_of_cell? w _ h3
    exact (World.cell?_of_block (hg.block g hlt (fun e => hne e.symm))).trans h3

/-- The reference's tree at q, its row v. -/
structure Re12 (B : Nat) (w : World) (q : Nat) (room : Int) (v : Value) (es : List (Tq.En × Value)) : Prop where
  blk : Cb w q [.int .i64 room, v] 31
  hi : B ≤ q
  row : w.ownsRow B 105 11 v es.length (es11 es)
  apart : v.ownBlock ≠ some q
  names : ∀ x ∈ es, (∃ a L c, x.2 = .slice a L c) ∧ Nmo w (Fo11 v q) x.2 x.1.2.names
  few : ∀ x ∈ es, x.1.2.names.length ≤ 1000
section
variable {B : Nat} {w w' : World} {q : Nat} {room : Int} {v v' : Value} {es es' : List (Tq.En × Value)}
theorem Re12.sl (h : Re12 B w q room v es) : Sl12 es := fun x hx => (h.names x hx).1
theorem Re12.lt (h : Re12 B w q room v es) {k : Nat} (hk : Fo11 v q k) : B ≤ k ∧ k < w.heap.size := by
  rcases hk with hk | rfl
  · exact h.row.lt k hk
  · exact ⟨h.hi, h.blk.lt⟩
theorem Re12.later (h : Re12 B w q room v es) (hb : Below w.heap.size w w') : Re12 B w' q room v es :=
  ⟨h.blk.below hb, h.hi, row_stays h.row (fun k e => hb.block k (h.row.lt k e).2), h.apart, fun x hx => ⟨(h.names x hx).1, (h.names x hx).2.later hb⟩, h.few⟩
/-- Others move: it stays. -/
theorem Re12.stays {F F' : Nat → Prop} (h : Re12 B w q room v es) (hm : Moved w w' F F') (ho : ∀ k, Fo11 v q k → ¬ F k) (hn : ∀ x ∈ es, Nmo w F x.2 x.1.2.names) : Re12 B w' q room v es :=
  ⟨h.blk.keep (hm.block q h.blk.lt (ho q (Or.inr rfl))), h.hi, row_stays h.row (fun k e => hm.block k (h.row.lt k e).2 (ho k (Or.inl e))), h.apart, fun x hx => ⟨(h.names x hx).1, ⟨((hn x hx).moved hm).nm, (h.names x hx).2.off⟩⟩, h.few⟩
theorem Re12.src (h : Re12 B w q room v es) : Sen12 w v es := by
  obtain ⟨a, c, rfl, _, hg⟩ := row_form h.row
  cases es with
  | nil =>
    rcases h.row.2 with ⟨e, _⟩ | ⟨g, cap, cur, e, _⟩
    · exact Or.inl ⟨e, rfl⟩
    · exact Or.inr ⟨g, 0, cap, e, fun j y hy => by simp [es11] at hy⟩
  | cons x es =>
    obtain ⟨g, rfl⟩ := hg (by simp)
    refine Or.inr ⟨g, 0, c, rfl, fun j y hy => ?_⟩
    have hj := (List.getElem?_eq_some_iff.1 hy).1
    rw [es11_len] at hj
    rw [Nat.zero_add, h.row.cellAt j (by omega)]
    exact hy
theorem Re12.rt (h : Re12 B w q room v es) : Rt11 w q room (es.map (·.1)) := by
  obtain ⟨a, c, rfl, _, hg⟩ := row_form h.row
  refine ⟨a, es.length, c, h.blk, by rw [List.length_map], fun j e he => ?_⟩
  rw [List.getElem?_map] at he
  cases hx : es[j]? with
  | none => rw [hx] at he; cases he
  | some x =>
    rw [hx] at he
    simp only [Option.map_some, Option.some.injEq] at he
    subst he
    have hj := (List.getElem?_eq_some_iff.1 hx).1
    have hm := List.mem_of_getElem? hx
    obtain ⟨g, rfl⟩ := hg (by omega)
    obtain ⟨⟨na, nL, nc, e2⟩, hs⟩ := h.names x hm
    refine ⟨g, 0, na, nL, nc, rfl, by rw [← e2]; exact hs.nm.ss, h.few x hm, fun i u hu => ?_⟩
    rw [← e2] at hu
    have hi := (List.getElem?_eq_some_iff.1 hu).1
    rw [e11_len] at hi
    rw [Nat.zero_add, h.row.cellAt (j * 11 + i) (by omega)]
    exact es11_at es j hx hu
/-- Another row is put in its place. -/
theorem Re12.put {w3 : World} {C : Nat} (h : Re12 B w q room v es) (hb : Below w.heap.size w w3) (hr : w3.ownsRow C 105 11 v' es'.length (es11 es')) (hC : w.heap.size ≤ C) (hn : ∀ x ∈ es', (∃ a L c, x.2 = .slice a L c) ∧ Nmo w (Fo11 v q) x.2 x.1.2.names ∧ x.1.2.names.length ≤ 1000) :
    Re12 B (w3.setCell ⟨q, 1, none⟩ v') q room v' es' ∧ Moved w (w3.setCell ⟨q, 1, none⟩ v') (Fo11 v q) (Fo11 v' q) := by
  have hq := h.blk.lt
  have hhi := h.hi
  have hg := grownBy_setCell w3 ⟨q, 1, none⟩ v'
  have hm : Moved w (w3.setCell ⟨q, 1, none⟩ v') (Fo11 v q) (Fo11 v' q) := by
    refine ⟨hg.os.trans hb.os, hg.tape.trans hb.tape, hg.output.trans hb.output, Nat.le_trans hb.size hg.size, fun k hk hF => ?_, fun k hk => ?_⟩
    · rw [hg.block k (Nat.lt_of_lt_of_le hk hb.size) (fun e => hF (Or.inr (by simpa using e))), hb.block k hk]
    · rcases hk with hk | rfl
      · have := (hr.lt k hk).1
        exact Or.inr (by omega)
      · exact Or.inl (Or.inr rfl)
  have hne : ∀ k, v'.ownBlock = some k → k ≠ q := fun k hk => by have := (hr.lt k hk).1; omega
  refine ⟨⟨(h.blk.below hb).set 1 v', hhi, ?_, fun e => hne q e rfl, fun x hx => ⟨(hn x hx).1, (hn x hx).2.1.moved hm⟩, fun x hx => (hn x hx).2.2⟩, hm⟩
  have hr2 : w3.ownsRow B 105 11 v' es'.length (es11 es') := by
    refine ⟨hr.1, ?_⟩
    rcases hr.2 with e | ⟨g, cap, cur, e, h1, h2⟩
    · exact Or.inl e
    · exact Or.inr ⟨g, cap, cur, e, by omega, h2⟩
  exact row_stays hr2 (fun k hk => RowKit.Below.heap_setCell _ _ _ _ (hne k hk))
end
/-- What lies ahead of a place, and what lies behind it, of a slice of entries. -/
theorem es11_take {es : List (Tq.En × Value)} {k j : Nat} {y : Value} (h : (es11 (es.take k))[j]? = some y) : (es11 es)[j]? = some y := by
  have hj := (List.getElem?_eq_some_iff.1 h).1
  conv => lhs; rw [← List.take_append_drop k es, es11_app]
  rw [List.getElem?_append_left hj]
  exact h
theorem es11_drop {es : List (Tq.En × Value)} {k j : Nat} {y : Value} (hk : k ≤ es.length) (h : (es11 (es.drop k))[j]? = some y) : (es11 es)[k * 11 + j]? = some y := by
  conv => lhs; rw [← List.take_append_drop k es, es11_app]
  have e : (es11 (es.take k)).length = k * 11 := by rw [es11_len, List.length_take, Nat.min_eq_left hk]
  rw [List.getElem?_append_right (by rw [e]; omega), e, Nat.add_sub_cancel_left]
  exact h
end Go.Proofs.YtpidafpaffpnaaaGreatDoor
namespace Go.Proofs.YtpidafpaffpnaaaGreatDoor
open Go.RowKit

set_option maxRecDepth 20000 in
set_option maxHeartbeats 4000000 in
theorem refAt_any12 (q : Nat) (room : Int) (l : List Tq.En) (s : ByteArray) (w : World) (h : Rt11 w q room l) (hN : l.length ≤ 100000) (hr : Kq.Rises (Tq.keys l)) :
    Calls Tryz.prog 54 #[dptr q, .string s] w fun e w' => e = .returned (.tuple #[.int .i64 ((Kq.low (Tq.keys l) s).length : Int), .bool (Kq.has (Tq.keys l) s)]) ∧ Below w.heap.size w w' := by
  obtain ⟨av, N, c, hb, hk, hc⟩ := h
  obtain ⟨L, hL⟩ : ∃ L, L = (Kq.low (Tq.keys l) s).length := ⟨_, rfl⟩
  obtain ⟨t, ht⟩ : ∃ t, t = Kq.has (Tq.keys l) s := ⟨_, rfl⟩
  have hkl : (Tq.keys l).length = l.length := by unfold Tq.keys; rw [List.length_map]
  have HC : Hid ((∀ (j : Nat) s, (Tq.keys l)[j]? = some s → ∃ g o, av = some ⟨g, o, none⟩ ∧ w.cell? ⟨g, o + j * 11, none⟩ = some (.string s)) ∧ N = (Tq.keys l).length) := by
    refine ⟨fun j x hj => ?_, by rw [hkl]; exact hk⟩
    unfold Tq.keys at hj
    rw [List.getElem?_map] at hj
    cases he : l[j]? with
    | none => rw [he] at hj; cases hj
    | some e =>
      rw [he] at hj
      simp only [Option.map_some, Option.some.injEq] at hj
      subst hj
      obtain ⟨g, o, na, nL, nc, h4, _, _, h7⟩ := hc j e he
      exact ⟨g, o, h4, h7 0 _ rfl⟩
  have HX : Hid (∀ w', Below w.heap.size w w' → w'.cell? ⟨q, 1, none⟩ = some (.slice av N c)) := fun w' hb' => Below.kept hb' ((hb.cell 1).trans rfl)
  have HL : Hid (L = (Kq.low (Tq.keys l) s).length ∧ t = Kq.has (Tq.keys l) s ∧ Kq.Rises (Tq.keys l)) := ⟨hL, ht, hr⟩
  have hN1 : N ≤ 100000 := by omega
  have hLN : L ≤ N := by have := Kq.low_len (Tq.keys l) s; omega
  rw [← hL, ← ht]
  clear hc hk hN hL ht hr hb hkl
  unfold dptr
  go_enter Tryz.func54, Tryz.ntmps54
  go_wp2
  go_loopw [6] (fun i wr => ∃ k : Nat, k ≤ L ∧ i = .int .i64 (k : Int) ∧ Below w.heap.size w wr) (fun i _ => N + 1 - (intOf i).toNat)
  case atStart => exact ⟨0, Nat.zero_le _, rfl, Below.refl _ _⟩
  case round =>
    obtain ⟨k, hk, rfl, hb⟩ := hrel
    have HR : Hid (Below w.heap.size w wr) := hb
    have hx0 := HX.out wr hb
    clear hb
    have i1 : (0 : Int) ≤ (k : Int) := by omega
    by_cases hlt : k < L
    · have hlt' : (k : Int) < (N : Int) := by omega
      have hwk : IntKind.wrap .i64 ((k : Int) + 1) = (k : Int) + 1 := by rw [IntKind.wrap_i64]; omega
      obtain ⟨x, hx, hxl⟩ := Kq.low_at (l := Tq.keys l) (s := s) (k := k) (by have := HL.out.1; omega)
      obtain ⟨g, o, hav, lx⟩ := HC.out.1 k x hx
      subst hav
      have lx' : wr.cell? ⟨g, o + k * 11, none⟩ = some (.string x) := Below.kept HR.out lx
      clear lx hx
      have hless : Op.bytesLess x.toList s.toList = true := hxl
      clear hxl
      go_wp2
      go_roundw
      case rel => exact ⟨k + 1, by omega, by go_num, HR.out⟩
      case measure => simp [intOf]; omega
    · obtain rfl : k = L := by omega
      clear hlt hk
      by_cases hlt : k < N
      · have hlt' : (k : Int) < (N : Int) := by omega
        obtain ⟨x, hx⟩ : ∃ x, (Tq.keys l)[k]? = some x := ⟨_, List.getElem?_eq_getElem (by have := HC.out.2; omega)⟩
        obtain ⟨hxl, hxe⟩ := Kq.low_end HL.out.2.2 (by rw [← HL.out.1]; exact hx)
        obtain ⟨g, o, hav, lx⟩ := HC.out.1 k x hx
        subst hav
        have lx' : wr.cell? ⟨g, o + k * 11, none⟩ = some (.string x) := Below.kept HR.out lx
        have hless : Op.bytesLess x.toList s.toList = false := hxl
        have heq : (x.toList == s.toList) = t := by
          rw [HL.out.2.1, hxe, Bool.eq_iff_iff, decide_eq_true_eq]
          exact ⟨fun h => bytes_eq h, fun h => by rw [h]; simp⟩
        clear lx hx hxl hxe
        go_wp2_with fail
        go_quiet (fail)
        have lx2 : (wr.drewN nq).cell? ⟨g, o + k * 11, none⟩ = some (.string x) := lx'
        clear lx'
        have HB : Hid (Below w.heap.size w (wr.drewN nq)) := below_drewN HR.out _
        go_wp2_with fail
        go_ret2
        exact ⟨rfl, HB.out⟩
      · have hlt' : ¬ (k : Int) < (N : Int) := by omega
        obtain rfl : t = false := by rw [HL.out.2.1]; exact Kq.low_all HL.out.2.2 (by have := HL.out.1; have := HC.out.2; omega)
        go_wp2_with fail
        go_quiet (fail)
        have HB : Hid (Below w.heap.size w (wr.drewN nq)) := below_drewN HR.out _
        go_wp2_with fail
        go_ret2
        exact ⟨rfl, HB.out⟩
end Go.Proofs.YtpidafpaffpnaaaGreatDoor
namespace Go.Proofs.YtpidafpaffpnaaaGreatDoor
open Go.RowKit

set_option maxRecDepth 20000 in
set_option maxHeartbeats 16000000 in
theorem refLay_none12 (B q : Nat) (N c k : Nat) (room : Int) (es : List (Tq.En × Value)) (p : ByteArray) (n : Kq.Kn) (na : Option Addr) (nL nc : Nat) (w : World) (h : Re12 B w q room (.slice (none) N c) es) (hNc : N = es.length ∧ N ≤ 1000 ∧ N ≤ c ∧ N = 0 ∧ c = 0) (hr : Kq.Rises (Tq.keys (es.map (·.1)))) (hk : k = (Kq.low (Tq.keys (es.map (·.1))) p).length) (hnm : Nmo w (Fo11 (.slice (none) N c) q) (.slice na nL nc) n.names) (hl : n.names.length ≤ 1000) :
    Calls Tryz.prog 69 #[dptr q, .agg #[.string p, .int .i64 n.made, .int .i64 n.changed, .int .i64 n.ver, .int .i64 n.kids, .int .i64 n.owner, .int .i64 n.len, .int .i64 n.cnt, .string n.data, .int .i64 n.next, .slice na nL nc]] w fun e w' => e = .returned (.tuple #[]) ∧ ∃ v', Re12 B w' q room v' (es.take k ++ [(((p, n), Value.slice na nL nc) : Tq.En × Value)] ++ es.drop k) ∧ Moved w w' (Fo11 (.slice (none) N c) q) (Fo11 v' q) := by
  have hkl : k ≤ N := by
    have h1 := Kq.low_len (Tq.keys (es.map (·.1))) p
    unfold Tq.keys at h1 hk
    rw [List.length_map, List.length_map] at h1
    omega
  have HM : Hid (N = es.length ∧ N ≤ 1000 ∧ k ≤ N ∧ N ≤ c ∧ N = 0 ∧ c = 0) := ⟨hNc.1, hNc.2.1, hkl, hNc.2.2⟩
  have HH : Hid (Re12 B w q room (.slice (none) N c) es) := h
  have HNM : Hid (Nmo w (Fo11 (.slice (none) N c) q) (.slice na nL nc) n.names ∧ n.names.length ≤ 1000) := ⟨hnm, hl⟩
  have HP : Hid (∀ w', Below w.heap.size w w' → ∃ t, Calls Tryz.prog 54 #[dptr q, .string p] w' fun e w1 => e = .returned (.tuple #[.int .i64 (k : Int), .bool t]) ∧ Below w'.heap.size w' w1) := fun w' hb => by
    have e := refAt_any12 q room (es.map (·.1)) p w' (h.later hb).rt (by rw [List.length_map]; omega) hr
    rw [← hk] at e
    exact ⟨_, e⟩
  have k0 : (0 : Int) ≤ (k : Int) := by omega
  have kN : (k : Int) ≤ (N : Int) := by omega
  have Nc : (N : Int) ≤ (c : Int) := by have := HM.out; omega
  have kc : (k : Int) ≤ (c : Int) := by omega
  clear h hNc hr hk hnm hl hkl
  unfold dptr at HP ⊢
  go_enter Tryz.func69, Tryz.ntmps69
  go_wp2_with fail
  have HB0 : Hid (Below w.heap.size w (w.alloc (.cells #[.string p, .int .i64 n.made, .int .i64 n.changed, .int .i64 n.ver, .int .i64 n.kids, .int .i64 n.owner, .int .i64 n.len, .int .i64 n.cnt, .string n.data, .int .i64 n.next, .slice na nL nc] 105))) := (Below.refl _ w).alloc (Nat.le_refl _) _
  obtain ⟨t, hp⟩ := HP.out _ HB0.out
  refine hp.mono ?_
  clear hp
  rintro e w1 ⟨rfl, hb⟩
  have HB1 : Hid (Below w.heap.size w w1) := HB0.out.trans (hb.mono HB0.out.size)
  have HN1 : Hid (Cb w1 w.heap.size (e11 (p, n) (.slice na nL nc)) 105) := (Cb.made w (e11 (p, n) (.slice na nL nc)) 105).below hb
  clear hb HB0
  go_wp2_with fail
  refine wp_region_U (fun w' => Below w1.drew.heap.size w1.drew w') [21] (by kernel_rfl) ?_
  have HBX : Hid (Below w.heap.size w w1.drew) := HB1.out.drew
  have HN : Hid (Cb w1.drew w.heap.size (e11 (p, n) (.slice na nL nc)) 105) := HN1.out
  generalize w1.drew = wX at *
  clear HN1 HB1 HP
  have HX : Hid (∀ w', Below wX.heap.size wX w' → w'.cell? ⟨q, 1, none⟩ = some (.slice (none) N c) ∧ w'.cell? ⟨w.heap.size, 0, none⟩ = some (.string p) ∧ w'.cell? ⟨w.heap.size, 1, none⟩ = some (.int .i64 n.made) ∧ w'.cell? ⟨w.heap.size, 2, none⟩ = some (.int .i64 n.changed) ∧ w'.cell? ⟨w.heap.size, 3, none⟩ = some (.int .i64 n.ver) ∧ w'.cell? ⟨w.heap.size, 4, none⟩ = some (.int .i64 n.kids) ∧ w'.cell? ⟨w.heap.size, 5, none⟩ = some (.int .i64 n.owner) ∧ w'.cell? ⟨w.heap.size, 6, none⟩ = some (.int .i64 n.len) ∧ w'.cell? ⟨w.heap.size, 7, none⟩ = some (.int .i64 n.cnt) ∧ w'.cell? ⟨w.heap.size, 8, none⟩ = some (.string n.data) ∧ w'.cell? ⟨w.heap.size, 9, none⟩ = some (.int .i64 n.next) ∧ w'.cell? ⟨w.heap.size, 10, none⟩ = some (.slice na nL nc)) := fun w' hb => ⟨Below.kept (HBX.out.trans (hb.mono HBX.out.size)) ((HH.out.blk.cell 1).trans rfl), Below.kept hb (HN.out.cell 0), Below.kept hb (HN.out.cell 1), Below.kept hb (HN.out.cell 2), Below.kept hb (HN.out.cell 3), Below.kept hb (HN.out.cell 4), Below.kept hb (HN.out.cell 5), Below.kept hb (HN.out.cell 6), Below.kept hb (HN.out.cell 7), Below.kept hb (HN.out.cell 8), Below.kept hb (HN.out.cell 9), Below.kept hb (HN.out.cell 10)⟩
  have HB0 : Hid (Below wX.heap.size wX wX) := Below.refl _ _
  have HSRC : Hid (∀ w', Below wX.heap.size wX w' → Sen12 w' (.slice none k c) (es.take k) ∧ Sen12 w' (.slice none (N - k) (c - k)) (es.drop k)) := by
    have hm := HM.out
    have e1 : k = 0 := by omega
    have e2 : N - k = 0 := by omega
    have e3 : c - k = 0 := by omega
    exact fun w' hb => ⟨Or.inl ⟨by rw [e1, hm.2.2.2.2.2], by rw [e1]; rfl⟩, Or.inl ⟨by rw [e2, e3], List.drop_eq_nil_iff.2 (by omega)⟩⟩
  refine' take_U (i := 0) (d := 13) (v := _) rfl rfl (by kernel_rfl) (by kernel_rfl) (by kernel_rfl) (by kernel_rfl) (by kernel_rfl) (by kernel_rfl) (fun _ _ _ h => h) (Or.inl ⟨by rfl, ?h0⟩) (HB0.out) ?_
  case h0 =>
    intro wt hSw
    go_simp
    with_reducible rfl
  simp only [List.setIfInBounds_toArray, List.set_cons_zero, List.set_cons_succ]
  refine' take_U (i := 2) (d := 15) (v := _) rfl rfl (by kernel_rfl) (by kernel_rfl) (by kernel_rfl) (by kernel_rfl) (by kernel_rfl) (by kernel_rfl) (fun _ _ _ h => h) (Or.inl ⟨by rfl, ?h2⟩) (HB0.out) ?_
  case h2 =>
    intro wt hSw
    go_simp
    with_reducible rfl
  simp only [List.setIfInBounds_toArray, List.set_cons_zero, List.set_cons_succ]
  refine' take_U (i := 3) (d := 16) (v := _) rfl rfl (by kernel_rfl) (by kernel_rfl) (by kernel_rfl) (by kernel_rfl) (by kernel_rfl) (by kernel_rfl) (fun _ _ _ h => h) (Or.inl ⟨by rfl, ?h3⟩) (HB0.out) ?_
  case h3 =>
    intro wt hSw
    go_simp
    with_reducible rfl
  simp only [List.setIfInBounds_toArray, List.set_cons_zero, List.set_cons_succ]
  refine' take_U (i := 4) (d := 17) (v := _) rfl rfl (by kernel_rfl) (by kernel_rfl) (by kernel_rfl) (by kernel_rfl) (by kernel_rfl) (by kernel_rfl) (fun _ _ _ h => h) (Or.inl ⟨by rfl, ?h4⟩) (HB0.out) ?_
  case h4 =>
    intro wt hSw
    go_simp
    with_reducible rfl
  simp only [List.setIfInBounds_toArray, List.set_cons_zero, List.set_cons_succ]
  refine' take_U (i := 5) (d := 18) (v := _) rfl rfl (by kernel_rfl) (by kernel_rfl) (by kernel_rfl) (by kernel_rfl) (by kernel_rfl) (by kernel_rfl) (fun _ _ _ h => h) (Or.inl ⟨by rfl, ?h5⟩) (HB0.out) ?_
  case h5 =>
    intro wt hSw
    obtain ⟨x1, y0, y1, y2, y3, y4, y5, y6, y7, y8, y9, y10⟩ := HX.out wt hSw
    go_simp
    with_reducible rfl
  simp only [List.setIfInBounds_toArray, List.set_cons_zero, List.set_cons_succ]
  refine' take_U (i := 6) (d := 19) (v := _) rfl rfl (by kernel_rfl) (by kernel_rfl) (by kernel_rfl) (by kernel_rfl) (by kernel_rfl) (by kernel_rfl) (fun _ _ _ h => h) (Or.inl ⟨by rfl, ?h6⟩) (HB0.out) ?_
  case h6 =>
    intro wt hSw
    go_simp
    with_reducible rfl
  simp only [List.setIfInBounds_toArray, List.set_cons_zero, List.set_cons_succ]
  refine' take_U (i := 7) (d := 20) (v := _) rfl rfl (by kernel_rfl) (by kernel_rfl) (by kernel_rfl) (by kernel_rfl) (by kernel_rfl) (by kernel_rfl) (fun _ _ _ h => h) (Or.inl ⟨by rfl, ?h7⟩) (HB0.out) ?_
  case h7 =>
    intro wt hSw
    go_simp
    with_reducible rfl
  simp only [List.setIfInBounds_toArray, List.set_cons_zero, List.set_cons_succ]
  refine' take_U (i := 9) (d := 22) (v := _) rfl rfl (by kernel_rfl) (by kernel_rfl) (by kernel_rfl) (by kernel_rfl) (by kernel_rfl) (by kernel_rfl) (fun _ _ _ h => h) (Or.inl ⟨by rfl, ?h9⟩) (HB0.out) ?_
  case h9 =>
    intro wt hSw
    obtain ⟨x1, y0, y1, y2, y3, y4, y5, y6, y7, y8, y9, y10⟩ := HX.out wt hSw
    go_simp
    with_reducible rfl
  simp only [List.setIfInBounds_toArray, List.set_cons_zero, List.set_cons_succ]
  refine' take_U (i := 12) (d := 25) (v := _) rfl rfl (by kernel_rfl) (by kernel_rfl) (by kernel_rfl) (by kernel_rfl) (by kernel_rfl) (by kernel_rfl) (fun _ _ _ h => h) (Or.inl ⟨by rfl, ?h12⟩) (HB0.out) ?_
  case h12 =>
    intro wt hSw
    go_simp
    with_reducible rfl
  simp only [List.setIfInBounds_toArray, List.set_cons_zero, List.set_cons_succ]
  refine' take_U (i := 13) (d := 26) (v := _) rfl rfl (by kernel_rfl) (by kernel_rfl) (by kernel_rfl) (by kernel_rfl) (by kernel_rfl) (by kernel_rfl) (fun _ _ _ h => h) (Or.inl ⟨by rfl, ?h13⟩) (HB0.out) ?_
  case h13 =>
    intro wt hSw
    go_simp
    with_reducible rfl
  simp only [List.setIfInBounds_toArray, List.set_cons_zero, List.set_cons_succ]
  refine' take_U (i := 14) (d := 27) (v := _) rfl rfl (by kernel_rfl) (by kernel_rfl) (by kernel_rfl) (by kernel_rfl) (by kernel_rfl) (by kernel_rfl) (fun _ _ _ h => h) (Or.inl ⟨by rfl, ?h14⟩) (HB0.out) ?_
  case h14 =>
    intro wt hSw
    go_simp
    with_reducible rfl
  simp only [List.setIfInBounds_toArray, List.set_cons_zero, List.set_cons_succ]
  refine' take_U (i := 15) (d := 28) (v := _) rfl rfl (by kernel_rfl) (by kernel_rfl) (by kernel_rfl) (by kernel_rfl) (by kernel_rfl) (by kernel_rfl) (fun _ _ _ h => h) (Or.inl ⟨by rfl, ?h15⟩) (HB0.out) ?_
  case h15 =>
    intro wt hSw
    obtain ⟨x1, y0, y1, y2, y3, y4, y5, y6, y7, y8, y9, y10⟩ := HX.out wt hSw
    go_simp
    with_reducible rfl
  simp only [List.setIfInBounds_toArray, List.set_cons_zero, List.set_cons_succ]
  refine' take_U (i := 16) (d := 29) (v := _) rfl rfl (by kernel_rfl) (by kernel_rfl) (by kernel_rfl) (by kernel_rfl) (by kernel_rfl) (by kernel_rfl) (fun _ _ _ h => h) (Or.inl ⟨by rfl, ?h16⟩) (HB0.out) ?_
  case h16 =>
    intro wt hSw
    go_simp
    with_reducible rfl
  simp only [List.setIfInBounds_toArray, List.set_cons_zero, List.set_cons_succ]
  refine' take_U (i := 17) (d := 30) (v := _) rfl rfl (by kernel_rfl) (by kernel_rfl) (by kernel_rfl) (by kernel_rfl) (by kernel_rfl) (by kernel_rfl) (fun _ _ _ h => h) (Or.inl ⟨by rfl, ?h17⟩) (HB0.out) ?_
  case h17 =>
    intro wt hSw
    go_simp
    with_reducible rfl
  simp only [List.setIfInBounds_toArray, List.set_cons_zero, List.set_cons_succ]
  refine wpAnyU_ready (rs := [1, 10]) (by kernel_rfl) (by simp) ?_
  refine AllReadyU.cons (o := _) rfl (fun K hK => ?_) (AllReadyU.cons (o := _) rfl (fun K hK => ?_) AllReadyU.nil)
  · go_simp
    obtain ⟨q0, hqq⟩ : ∃ z, z = wX.heap.size := ⟨_, rfl⟩
    rw [← hqq]
    have HB1 : Hid (Below wX.heap.size wX (wX.alloc (.cells #[] 105))) := HB0.out.alloc HB0.out.size _
    have HO1 : Hid ((wX.alloc (.cells #[] 105)).ownsRow wX.heap.size 105 11 (.slice (some ⟨q0, 0, none⟩) 0 0) ([] : List (Tq.En × Value)).length (es11 [])) := by rw [hqq]; exact World.ownsRow_made wX #[] 0 HB0.out.size (by decide) rfl
    clear hqq
    generalize wX.alloc (.cells #[] 105) = wY1 at *
    refine hK.out _ _ (fun _ _ => HB1.out) ?_
    clear hK K
    refine wpAnyU_ready (rs := [8, 10]) (by kernel_rfl) (by simp) ?_
    refine AllReadyU.cons (o := _) rfl (fun K hK => ?_) (AllReadyU.cons (o := _) rfl (fun K hK => ?_) AllReadyU.nil)
    · refine wp_ents12 _ _ rfl wX.heap.size (.slice (some ⟨q0, 0, none⟩) 0 0) (.slice (none) k c) [] (es.take k) wY1 rfl rfl HO1.out HB1.out.size (HSRC.out _ HB1.out).1 (fun x hx => HH.out.sl x (List.mem_of_mem_take hx)) (by have := HM.out; simp only [List.length_nil, List.length_take]; omega) ?_
      intro v34 wY2 ho hb hg
      rw [List.nil_append] at ho
      have HO2 : Hid (wY2.ownsRow wX.heap.size 105 11 v34 (es.take k).length (es11 (es.take k))) := ho
      have HB2 : Hid (Below wX.heap.size wX wY2) := HB1.out.trans (hb.mono (Nat.le_refl _))
      obtain ⟨a34, c34, hv34, _⟩ := row_form ho
      obtain ⟨n34, hn34⟩ : ∃ z, z = (es.take k).length := ⟨_, rfl⟩
      rw [← hn34] at hv34
      subst hv34
      clear ho hb hg hn34
      go_simp
      refine hK.out _ _ (fun _ _ => HB2.out) ?_
      clear hK K
      refine wpAnyU_ready (rs := [10]) (by kernel_rfl) (by simp) ?_
      refine AllReadyU.cons (o := _) rfl (fun K hK => ?_) AllReadyU.nil
      go_simp
      obtain ⟨qx, hqx⟩ : ∃ z, z = wY2.heap.size := ⟨_, rfl⟩
      rw [← hqx]
      have HB3 : Hid (Below wX.heap.size wX (wY2.alloc (.cells #[.string p, .int .i64 n.made, .int .i64 n.changed, .int .i64 n.ver, .int .i64 n.kids, .int .i64 n.owner, .int .i64 n.len, .int .i64 n.cnt, .string n.data, .int .i64 n.next, .slice na nL nc] 105))) := HB2.out.alloc HB2.out.size _
      have HS3 : Hid (Sen12 (wY2.alloc (.cells #[.string p, .int .i64 n.made, .int .i64 n.changed, .int .i64 n.ver, .int .i64 n.kids, .int .i64 n.owner, .int .i64 n.len, .int .i64 n.cnt, .string n.data, .int .i64 n.next, .slice na nL nc] 105)) (.slice (some ⟨qx, 0, none⟩) 1 1) [(((p, n), Value.slice na nL nc) : Tq.En × Value)]) := by rw [hqx]; exact Sen12.one (x := (((p, n), Value.slice na nL nc) : Tq.En × Value)) (Cb.made wY2 (e11 (p, n) (.slice na nL nc)) _)
      have HQ3 : Hid (qx < (wY2.alloc (.cells #[.string p, .int .i64 n.made, .int .i64 n.changed, .int .i64 n.ver, .int .i64 n.kids, .int .i64 n.owner, .int .i64 n.len, .int .i64 n.cnt, .string n.data, .int .i64 n.next, .slice na nL nc] 105)).heap.size) := by
        have e : qx < (wY2.alloc (.cells #[.string p, .int .i64 n.made, .int .i64 n.changed, .int .i64 n.ver, .int .i64 n.kids, .int .i64 n.owner, .int .i64 n.len, .int .i64 n.cnt, .string n.data, .int .i64 n.next, .slice na nL nc] 105)).heap.size := by rw [hqx]; simp
        exact e
      have HO3 : Hid ((wY2.alloc (.cells #[.string p, .int .i64 n.made, .int .i64 n.changed, .int .i64 n.ver, .int .i64 n.kids, .int .i64 n.owner, .int .i64 n.len, .int .i64 n.cnt, .string n.data, .int .i64 n.next, .slice na nL nc] 105)).ownsRow wX.heap.size 105 11 (.slice a34 n34 c34) (es.take k).length (es11 (es.take k))) := HO2.out.alloc _
      clear hqx
      generalize wY2.alloc (.cells #[.string p, .int .i64 n.made, .int .i64 n.changed, .int .i64 n.ver, .int .i64 n.kids, .int .i64 n.owner, .int .i64 n.len, .int .i64 n.cnt, .string n.data, .int .i64 n.next, .slice na nL nc] 105) = wY3 at *
      refine hK.out _ _ (fun _ _ => HB3.out) ?_
      clear hK K
      refine wpAnyU_ready (rs := [11]) (by kernel_rfl) (by simp) ?_
      refine AllReadyU.cons (o := _) rfl (fun K hK => ?_) AllReadyU.nil
      refine wp_ents12 _ _ rfl wX.heap.size (.slice a34 n34 c34) (.slice (some ⟨qx, 0, none⟩) 1 1) (es.take k) [(((p, n), Value.slice na nL nc) : Tq.En × Value)] wY3 rfl rfl HO3.out HB3.out.size HS3.out (fun x hx => by rw [List.mem_singleton] at hx; rw [hx]; exact ⟨_, _, _, rfl⟩) (by have := HM.out; simp only [List.length_singleton, List.length_take]; omega) ?_
      intro v35 wY4 ho hb hg
      have HO5 : Hid (wY4.ownsRow wX.heap.size 105 11 v35 (es.take k ++ [(((p, n), Value.slice na nL nc) : Tq.En × Value)]).length (es11 (es.take k ++ [(((p, n), Value.slice na nL nc) : Tq.En × Value)]))) := ho
      have HB5 : Hid (Below wX.heap.size wX wY4) := HB3.out.trans (hb.mono (Nat.le_refl _))
      obtain ⟨a35, c35, hv35, _⟩ := row_form ho
      obtain ⟨n35, hn35⟩ : ∃ z, z = (es.take k ++ [(((p, n), Value.slice na nL nc) : Tq.En × Value)]).length := ⟨_, rfl⟩
      rw [← hn35] at hv35
      subst hv35
      clear ho hb hg hn35
      go_simp
      refine hK.out _ _ (fun _ _ => HB5.out) ?_
      clear hK K
      refine wpAnyU_ready (rs := [18]) (by kernel_rfl) (by simp) ?_
      refine AllReadyU.cons (o := _) rfl (fun K hK => ?_) AllReadyU.nil
      refine wp_ents12 _ _ rfl wX.heap.size (.slice a35 n35 c35) (.slice none (N - k) (c - k)) (es.take k ++ [(((p, n), Value.slice na nL nc) : Tq.En × Value)]) (es.drop k) wY4 rfl rfl HO5.out HB5.out.size (HSRC.out _ HB5.out).2 (fun x hx => HH.out.sl x (List.mem_of_mem_drop hx)) (by have := HM.out; simp only [List.length_append, List.length_singleton, List.length_drop, List.length_take]; omega) ?_
      intro v42 wY5 ho hb hg
      have HO4 : Hid (wY5.ownsRow wX.heap.size 105 11 v42 (es.take k ++ [(((p, n), Value.slice na nL nc) : Tq.En × Value)] ++ es.drop k).length (es11 (es.take k ++ [(((p, n), Value.slice na nL nc) : Tq.En × Value)] ++ es.drop k))) := ho
      have HB4 : Hid (Below wX.heap.size wX wY5) := HB5.out.trans (hb.mono (Nat.le_refl _))
      have HBW : Hid (Below w.heap.size w wY5) := HBX.out.trans (HB4.out.mono HBX.out.size)
      obtain ⟨a42, c42, hv42, _⟩ := row_form ho
      obtain ⟨n42, hn42⟩ : ∃ z, z = (es.take k ++ [(((p, n), Value.slice na nL nc) : Tq.En × Value)] ++ es.drop k).length := ⟨_, rfl⟩
      rw [← hn42] at hv42
      subst hv42
      clear ho hb hg hn42
      have HQ4 : Hid (wY5.cell? ⟨q, 1, none⟩ = some (.slice (none) N c) ∧ wY5.frozen? ⟨q, 1, none⟩ = false) := ⟨Below.kept HBW.out ((HH.out.blk.cell 1).trans rfl), (HH.out.blk.below HBW.out).free 1⟩
      go_simp
      refine hK.out _ _ (fun _ _ => HB4.out) ?_
      clear hK K
      refine' take_U (i := 19) (d := 32) (v := _) rfl rfl (by kernel_rfl) (by kernel_rfl) (by kernel_rfl) (by kernel_rfl) (by kernel_rfl) (by kernel_rfl) (fun _ _ _ h => h) (Or.inl ⟨by rfl, ?h19⟩) (HB4.out) ?_
      case h19 =>
        intro wt hSw
        go_simp
        with_reducible rfl
      simp only [List.setIfInBounds_toArray, List.set_cons_zero, List.set_cons_succ]
      refine' take_U (i := 20) (d := 33) (v := _) rfl rfl (by kernel_rfl) (by kernel_rfl) (by kernel_rfl) (by kernel_rfl) (by kernel_rfl) (by kernel_rfl) (fun _ _ _ h => h) (Or.inl ⟨by rfl, ?h20⟩) (HB4.out) ?_
      case h20 =>
        intro wt hSw
        go_simp
        with_reducible rfl
      simp only [List.setIfInBounds_toArray, List.set_cons_zero, List.set_cons_succ]
      refine wpAnyU_ready (rs := [21]) (by kernel_rfl) (by simp) ?_
      refine AllReadyU.cons (o := _) rfl (fun K hK => ?_) AllReadyU.nil
      have hc := HQ4.out.1
      have hz := HQ4.out.2
      go_simp
      clear hc hz
      refine hK.out _ _ (fun h => absurd (by decide) h) ?_
      clear hK K
      refine wpAnyU_done (by kernel_rfl) ?_ _
      have HZ : Hid (Re12 B (wY5.setCell ⟨q, 1, none⟩ (.slice a42 n42 c42)) q room (.slice a42 n42 c42) (es.take k ++ [(((p, n), Value.slice na nL nc) : Tq.En × Value)] ++ es.drop k) ∧ Moved w (wY5.setCell ⟨q, 1, none⟩ (.slice a42 n42 c42)) (Fo11 (.slice (none) N c) q) (Fo11 (.slice a42 n42 c42) q)) :=
        HH.out.put HBW.out HO4.out HBX.out.size (fun x hx => by
          rw [List.append_assoc, List.mem_append, List.mem_append, List.mem_singleton] at hx
          rcases hx with hx | hx | hx
          · have hx' := List.mem_of_mem_take hx
            exact ⟨(HH.out.names x hx').1, (HH.out.names x hx').2, HH.out.few x hx'⟩
          · rw [hx]
            exact ⟨⟨_, _, _, rfl⟩, HNM.out.1, HNM.out.2⟩
          · have hx' := List.mem_of_mem_drop hx
            exact ⟨(HH.out.names x hx').1, (HH.out.names x hx').2, HH.out.few x hx'⟩)
      generalize wY5.setCell ⟨q, 1, none⟩ (.slice a42 n42 c42) = wz at *
      clear HSRC
      go_wp2
      go_end0
      exact ⟨rfl, _, HZ.out.1, HZ.out.2⟩
    · go_simp
      obtain ⟨qx, hqx⟩ : ∃ z, z = wY1.heap.size := ⟨_, rfl⟩
      rw [← hqx]
      have HB2 : Hid (Below wX.heap.size wX (wY1.alloc (.cells #[.string p, .int .i64 n.made, .int .i64 n.changed, .int .i64 n.ver, .int .i64 n.kids, .int .i64 n.owner, .int .i64 n.len, .int .i64 n.cnt, .string n.data, .int .i64 n.next, .slice na nL nc] 105))) := HB1.out.alloc HB1.out.size _
      have HS2 : Hid (Sen12 (wY1.alloc (.cells #[.string p, .int .i64 n.made, .int .i64 n.changed, .int .i64 n.ver, .int .i64 n.kids, .int .i64 n.owner, .int .i64 n.len, .int .i64 n.cnt, .string n.data, .int .i64 n.next, .slice na nL nc] 105)) (.slice (some ⟨qx, 0, none⟩) 1 1) [(((p, n), Value.slice na nL nc) : Tq.En × Value)]) := by rw [hqx]; exact Sen12.one (x := (((p, n), Value.slice na nL nc) : Tq.En × Value)) (Cb.made wY1 (e11 (p, n) (.slice na nL nc)) _)
      have HQ2 : Hid (qx < (wY1.alloc (.cells #[.string p, .int .i64 n.made, .int .i64 n.changed, .int .i64 n.ver, .int .i64 n.kids, .int .i64 n.owner, .int .i64 n.len, .int .i64 n.cnt, .string n.data, .int .i64 n.next, .slice na nL nc] 105)).heap.size) := by
        have e : qx < (wY1.alloc (.cells #[.string p, .int .i64 n.made, .int .i64 n.changed, .int .i64 n.ver, .int .i64 n.kids, .int .i64 n.owner, .int .i64 n.len, .int .i64 n.cnt, .string n.data, .int .i64 n.next, .slice na nL nc] 105)).heap.size := by rw [hqx]; simp
        exact e
      have HO2 : Hid ((wY1.alloc (.cells #[.string p, .int .i64 n.made, .int .i64 n.changed, .int .i64 n.ver, .int .i64 n.kids, .int .i64 n.owner, .int .i64 n.len, .int .i64 n.cnt, .string n.data, .int .i64 n.next, .slice na nL nc] 105)).ownsRow wX.heap.size 105 11 (.slice (some ⟨q0, 0, none⟩) 0 0) ([] : List (Tq.En × Value)).length (es11 [])) := HO1.out.alloc _
      have HNE : Hid (q0 ≠ qx) := by
        have e := (HO1.out.lt q0 rfl).2
        have e2 : q0 ≠ qx := by omega
        exact e2
      clear hqx
      generalize wY1.alloc (.cells #[.string p, .int .i64 n.made, .int .i64 n.changed, .int .i64 n.ver, .int .i64 n.kids, .int .i64 n.owner, .int .i64 n.len, .int .i64 n.cnt, .string n.data, .int .i64 n.next, .slice na nL nc] 105) = wY2 at *
      refine hK.out _ _ (fun _ _ => HB2.out) ?_
      clear hK K
      refine wpAnyU_ready (rs := [8]) (by kernel_rfl) (by simp) ?_
      refine AllReadyU.cons (o := _) rfl (fun K hK => ?_) AllReadyU.nil
      refine wp_ents12 _ _ rfl wX.heap.size (.slice (some ⟨q0, 0, none⟩) 0 0) (.slice (none) k c) [] (es.take k) wY2 rfl rfl HO2.out HB2.out.size (HSRC.out _ HB2.out).1 (fun x hx => HH.out.sl x (List.mem_of_mem_take hx)) (by have := HM.out; simp only [List.length_nil, List.length_take]; omega) ?_
      intro v34 wY3 ho hb hg
      rw [List.nil_append] at ho
      have HO3 : Hid (wY3.ownsRow wX.heap.size 105 11 v34 (es.take k).length (es11 (es.take k))) := ho
      have HB3 : Hid (Below wX.heap.size wX wY3) := HB2.out.trans (hb.mono (Nat.le_refl _))
      have HS3 : Hid (Sen12 wY3 (.slice (some ⟨qx, 0, none⟩) 1 1) [(((p, n), Value.slice na nL nc) : Tq.En × Value)]) := HS2.out.grown hg (fun e => HNE.out (by simpa [Value.ownBlock] using e))
      obtain ⟨a34, c34, hv34, _⟩ := row_form ho
      obtain ⟨n34, hn34⟩ : ∃ z, z = (es.take k).length := ⟨_, rfl⟩
      rw [← hn34] at hv34
      subst hv34
      clear ho hb hg hn34
      go_simp
      refine hK.out _ _ (fun _ _ => HB3.out) ?_
      clear hK K
      refine wpAnyU_ready (rs := [11]) (by kernel_rfl) (by simp) ?_
      refine AllReadyU.cons (o := _) rfl (fun K hK => ?_) AllReadyU.nil
      refine wp_ents12 _ _ rfl wX.heap.size (.slice a34 n34 c34) (.slice (some ⟨qx, 0, none⟩) 1 1) (es.take k) [(((p, n), Value.slice na nL nc) : Tq.En × Value)] wY3 rfl rfl HO3.out HB3.out.size HS3.out (fun x hx => by rw [List.mem_singleton] at hx; rw [hx]; exact ⟨_, _, _, rfl⟩) (by have := HM.out; simp only [List.length_singleton, List.length_take]; omega) ?_
      intro v35 wY4 ho hb hg
      have HO5 : Hid (wY4.ownsRow wX.heap.size 105 11 v35 (es.take k ++ [(((p, n), Value.slice na nL nc) : Tq.En × Value)]).length (es11 (es.take k ++ [(((p, n), Value.slice na nL nc) : Tq.En × Value)]))) := ho
      have HB5 : Hid (Below wX.heap.size wX wY4) := HB3.out.trans (hb.mono (Nat.le_refl _))
      obtain ⟨a35, c35, hv35, _⟩ := row_form ho
      obtain ⟨n35, hn35⟩ : ∃ z, z = (es.take k ++ [(((p, n), Value.slice na nL nc) : Tq.En × Value)]).length := ⟨_, rfl⟩
      rw [← hn35] at hv35
      subst hv35
      clear ho hb hg hn35
      go_simp
      refine hK.out _ _ (fun _ _ => HB5.out) ?_
      clear hK K
      refine wpAnyU_ready (rs := [18]) (by kernel_rfl) (by simp) ?_
      refine AllReadyU.cons (o := _) rfl (fun K hK => ?_) AllReadyU.nil
      refine wp_ents12 _ _ rfl wX.heap.size (.slice a35 n35 c35) (.slice none (N - k) (c - k)) (es.take k ++ [(((p, n), Value.slice na nL nc) : Tq.En × Value)]) (es.drop k) wY4 rfl rfl HO5.out HB5.out.size (HSRC.out _ HB5.out).2 (fun x hx => HH.out.sl x (List.mem_of_mem_drop hx)) (by have := HM.out; simp only [List.length_append, List.length_singleton, List.length_drop, List.length_take]; omega) ?_
      intro v42 wY5 ho hb hg
      have HO4 : Hid (wY5.ownsRow wX.heap.size 105 11 v42 (es.take k ++ [(((p, n), Value.slice na nL nc) : Tq.En × Value)] ++ es.drop k).length (es11 (es.take k ++ [(((p, n), Value.slice na nL nc) : Tq.En × Value)] ++ es.drop k))) := ho
      have HB4 : Hid (Below wX.heap.size wX wY5) := HB5.out.trans (hb.mono (Nat.le_refl _))
      have HBW : Hid (Below w.heap.size w wY5) := HBX.out.trans (HB4.out.mono HBX.out.size)
      obtain ⟨a42, c42, hv42, _⟩ := row_form ho
      obtain ⟨n42, hn42⟩ : ∃ z, z = (es.take k ++ [(((p, n), Value.slice na nL nc) : Tq.En × Value)] ++ es.drop k).length := ⟨_, rfl⟩
      rw [← hn42] at hv42
      subst hv42
      clear ho hb hg hn42
      have HQ4 : Hid (wY5.cell? ⟨q, 1, none⟩ = some (.slice (none) N c) ∧ wY5.frozen? ⟨q, 1, none⟩ = false) := ⟨Below.kept HBW.out ((HH.out.blk.cell 1).trans rfl), (HH.out.blk.below HBW.out).free 1⟩
      go_simp
      refine hK.out _ _ (fun _ _ => HB4.out) ?_
      clear hK K
      refine' take_U (i := 19) (d := 32) (v := _) rfl rfl (by kernel_rfl) (by kernel_rfl) (by kernel_rfl) (by kernel_rfl) (by kernel_rfl) (by kernel_rfl) (fun _ _ _ h => h) (Or.inl ⟨by rfl, ?h19⟩) (HB4.out) ?_
      case h19 =>
        intro wt hSw
        go_simp
        with_reducible rfl
      simp only [List.setIfInBounds_toArray, List.set_cons_zero, List.set_cons_succ]
      refine' take_U (i := 20) (d := 33) (v := _) rfl rfl (by kernel_rfl) (by kernel_rfl) (by kernel_rfl) (by kernel_rfl) (by kernel_rfl) (by kernel_rfl) (fun _ _ _ h => h) (Or.inl ⟨by rfl, ?h20⟩) (HB4.out) ?_
      case h20 =>
        intro wt hSw
        go_simp
        with_reducible rfl
      simp only [List.setIfInBounds_toArray, List.set_cons_zero, List.set_cons_succ]
      refine wpAnyU_ready (rs := [21]) (by kernel_rfl) (by simp) ?_
      refine AllReadyU.cons (o := _) rfl (fun K hK => ?_) AllReadyU.nil
      have hc := HQ4.out.1
      have hz := HQ4.out.2
      go_simp
      clear hc hz
      refine hK.out _ _ (fun h => absurd (by decide) h) ?_
      clear hK K
      refine wpAnyU_done (by kernel_rfl) ?_ _
      have HZ : Hid (Re12 B (wY5.setCell ⟨q, 1, none⟩ (.slice a42 n42 c42)) q room (.slice a42 n42 c42) (es.take k ++ [(((p, n), Value.slice na nL nc) : Tq.En × Value)] ++ es.drop k) ∧ Moved w (wY5.setCell ⟨q, 1, none⟩ (.slice a42 n42 c42)) (Fo11 (.slice (none) N c) q) (Fo11 (.slice a42 n42 c42) q)) :=
        HH.out.put HBW.out HO4.out HBX.out.size (fun x hx => by
          rw [List.append_assoc, List.mem_append, List.mem_append, List.mem_singleton] at hx
          rcases hx with hx | hx | hx
          · have hx' := List.mem_of_mem_take hx
            exact ⟨(HH.out.names x hx').1, (HH.out.names x hx').2, HH.out.few x hx'⟩
          · rw [hx]
            exact ⟨⟨_, _, _, rfl⟩, HNM.out.1, HNM.out.2⟩
          · have hx' := List.mem_of_mem_drop hx
            exact ⟨(HH.out.names x hx').1, (HH.out.names x hx').2, HH.out.few x hx'⟩)
      generalize wY5.setCell ⟨q, 1, none⟩ (.slice a42 n42 c42) = wz at *
      clear HSRC
      go_wp2
      go_end0
      exact ⟨rfl, _, HZ.out.1, HZ.out.2⟩
  · go_simp
    obtain ⟨qx, hqx⟩ : ∃ z, z = wX.heap.size := ⟨_, rfl⟩
    rw [← hqx]
    have HB1 : Hid (Below wX.heap.size wX (wX.alloc (.cells #[.string p, .int .i64 n.made, .int .i64 n.changed, .int .i64 n.ver, .int .i64 n.kids, .int .i64 n.owner, .int .i64 n.len, .int .i64 n.cnt, .string n.data, .int .i64 n.next, .slice na nL nc] 105))) := HB0.out.alloc HB0.out.size _
    have HS1 : Hid (Sen12 (wX.alloc (.cells #[.string p, .int .i64 n.made, .int .i64 n.changed, .int .i64 n.ver, .int .i64 n.kids, .int .i64 n.owner, .int .i64 n.len, .int .i64 n.cnt, .string n.data, .int .i64 n.next, .slice na nL nc] 105)) (.slice (some ⟨qx, 0, none⟩) 1 1) [(((p, n), Value.slice na nL nc) : Tq.En × Value)]) := by rw [hqx]; exact Sen12.one (x := (((p, n), Value.slice na nL nc) : Tq.En × Value)) (Cb.made wX (e11 (p, n) (.slice na nL nc)) _)
    have HQ1 : Hid (qx < (wX.alloc (.cells #[.string p, .int .i64 n.made, .int .i64 n.changed, .int .i64 n.ver, .int .i64 n.kids, .int .i64 n.owner, .int .i64 n.len, .int .i64 n.cnt, .string n.data, .int .i64 n.next, .slice na nL nc] 105)).heap.size) := by
      have e : qx < (wX.alloc (.cells #[.string p, .int .i64 n.made, .int .i64 n.changed, .int .i64 n.ver, .int .i64 n.kids, .int .i64 n.owner, .int .i64 n.len, .int .i64 n.cnt, .string n.data, .int .i64 n.next, .slice na nL nc] 105)).heap.size := by rw [hqx]; simp
      exact e
    clear hqx
    generalize wX.alloc (.cells #[.string p, .int .i64 n.made, .int .i64 n.changed, .int .i64 n.ver, .int .i64 n.kids, .int .i64 n.owner, .int .i64 n.len, .int .i64 n.cnt, .string n.data, .int .i64 n.next, .slice na nL nc] 105) = wY1 at *
    refine hK.out _ _ (fun _ _ => HB1.out) ?_
    clear hK K
    refine wpAnyU_ready (rs := [1]) (by kernel_rfl) (by simp) ?_
    refine AllReadyU.cons (o := _) rfl (fun K hK => ?_) AllReadyU.nil
    go_simp
    obtain ⟨q0, hqq⟩ : ∃ z, z = wY1.heap.size := ⟨_, rfl⟩
    rw [← hqq]
    have HB2 : Hid (Below wX.heap.size wX (wY1.alloc (.cells #[] 105))) := HB1.out.alloc HB1.out.size _
    have HO2 : Hid ((wY1.alloc (.cells #[] 105)).ownsRow wX.heap.size 105 11 (.slice (some ⟨q0, 0, none⟩) 0 0) ([] : List (Tq.En × Value)).length (es11 [])) := by rw [hqq]; exact World.ownsRow_made wY1 #[] 0 HB1.out.size (by decide) rfl
    have HS2 : Hid (Sen12 (wY1.alloc (.cells #[] 105)) (.slice (some ⟨qx, 0, none⟩) 1 1) [(((p, n), Value.slice na nL nc) : Tq.En × Value)]) := HS1.out.below ((Below.refl _ _).alloc (Nat.le_refl _) _)
    have HNE : Hid (q0 ≠ qx) := by
      have e := HQ1.out
      have e2 : q0 ≠ qx := by omega
      exact e2
    clear hqq
    generalize wY1.alloc (.cells #[] 105) = wY2 at *
    refine hK.out _ _ (fun _ _ => HB2.out) ?_
    clear hK K
    refine wpAnyU_ready (rs := [8]) (by kernel_rfl) (by simp) ?_
    refine AllReadyU.cons (o := _) rfl (fun K hK => ?_) AllReadyU.nil
    refine wp_ents12 _ _ rfl wX.heap.size (.slice (some ⟨q0, 0, none⟩) 0 0) (.slice (none) k c) [] (es.take k) wY2 rfl rfl HO2.out HB2.out.size (HSRC.out _ HB2.out).1 (fun x hx => HH.out.sl x (List.mem_of_mem_take hx)) (by have := HM.out; simp only [List.length_nil, List.length_take]; omega) ?_
    intro v34 wY3 ho hb hg
    rw [List.nil_append] at ho
    have HO3 : Hid (wY3.ownsRow wX.heap.size 105 11 v34 (es.take k).length (es11 (es.take k))) := ho
    have HB3 : Hid (Below wX.heap.size wX wY3) := HB2.out.trans (hb.mono (Nat.le_refl _))
    have HS3 : Hid (Sen12 wY3 (.slice (some ⟨qx, 0, none⟩) 1 1) [(((p, n), Value.slice na nL nc) : Tq.En × Value)]) := HS2.out.grown hg (fun e => HNE.out (by simpa [Value.ownBlock] using e))
    obtain ⟨a34, c34, hv34, _⟩ := row_form ho
    obtain ⟨n34, hn34⟩ : ∃ z, z = (es.take k).length := ⟨_, rfl⟩
    rw [← hn34] at hv34
    subst hv34
    clear ho hb hg hn34
    go_simp
    refine hK.out _ _ (fun _ _ => HB3.out) ?_
    clear hK K
    refine wpAnyU_ready (rs := [11]) (by kernel_rfl) (by simp) ?_
    refine AllReadyU.cons (o := _) rfl (fun K hK => ?_) AllReadyU.nil
    refine wp_ents12 _ _ rfl wX.heap.size (.slice a34 n34 c34) (.slice (some ⟨qx, 0, none⟩) 1 1) (es.take k) [(((p, n), Value.slice na nL nc) : Tq.En × Value)] wY3 rfl rfl HO3.out HB3.out.size HS3.out (fun x hx => by rw [List.mem_singleton] at hx; rw [hx]; exact ⟨_, _, _, rfl⟩) (by have := HM.out; simp only [List.length_singleton, List.length_take]; omega) ?_
    intro v35 wY4 ho hb hg
    have HO5 : Hid (wY4.ownsRow wX.heap.size 105 11 v35 (es.take k ++ [(((p, n), Value.slice na nL nc) : Tq.En × Value)]).length (es11 (es.take k ++ [(((p, n), Value.slice na nL nc) : Tq.En × Value)]))) := ho
    have HB5 : Hid (Below wX.heap.size wX wY4) := HB3.out.trans (hb.mono (Nat.le_refl _))
    obtain ⟨a35, c35, hv35, _⟩ := row_form ho
    obtain ⟨n35, hn35⟩ : ∃ z, z = (es.take k ++ [(((p, n), Value.slice na nL nc) : Tq.En × Value)]).length := ⟨_, rfl⟩
    rw [← hn35] at hv35
    subst hv35
    clear ho hb hg hn35
    go_simp
    refine hK.out _ _ (fun _ _ => HB5.out) ?_
    clear hK K
    refine wpAnyU_ready (rs := [18]) (by kernel_rfl) (by simp) ?_
    refine AllReadyU.cons (o := _) rfl (fun K hK => ?_) AllReadyU.nil
    refine wp_ents12 _ _ rfl wX.heap.size (.slice a35 n35 c35) (.slice none (N - k) (c - k)) (es.take k ++ [(((p, n), Value.slice na nL nc) : Tq.En × Value)]) (es.drop k) wY4 rfl rfl HO5.out HB5.out.size (HSRC.out _ HB5.out).2 (fun x hx => HH.out.sl x (List.mem_of_mem_drop hx)) (by have := HM.out; simp only [List.length_append, List.length_singleton, List.length_drop, List.length_take]; omega) ?_
    intro v42 wY5 ho hb hg
    have HO4 : Hid (wY5.ownsRow wX.heap.size 105 11 v42 (es.take k ++ [(((p, n), Value.slice na nL nc) : Tq.En × Value)] ++ es.drop k).length (es11 (es.take k ++ [(((p, n), Value.slice na nL nc) : Tq.En × Value)] ++ es.drop k))) := ho
    have HB4 : Hid (Below wX.heap.size wX wY5) := HB5.out.trans (hb.mono (Nat.le_refl _))
    have HBW : Hid (Below w.heap.size w wY5) := HBX.out.trans (HB4.out.mono HBX.out.size)
    obtain ⟨a42, c42, hv42, _⟩ := row_form ho
    obtain ⟨n42, hn42⟩ : ∃ z, z = (es.take k ++ [(((p, n), Value.slice na nL nc) : Tq.En × Value)] ++ es.drop k).length := ⟨_, rfl⟩
    rw [← hn42] at hv42
    subst hv42
    clear ho hb hg hn42
    have HQ4 : Hid (wY5.cell? ⟨q, 1, none⟩ = some (.slice (none) N c) ∧ wY5.frozen? ⟨q, 1, none⟩ = false) := ⟨Below.kept HBW.out ((HH.out.blk.cell 1).trans rfl), (HH.out.blk.below HBW.out).free 1⟩
    go_simp
    refine hK.out _ _ (fun _ _ => HB4.out) ?_
    clear hK K
    refine' take_U (i := 19) (d := 32) (v := _) rfl rfl (by kernel_rfl) (by kernel_rfl) (by kernel_rfl) (by kernel_rfl) (by kernel_rfl) (by kernel_rfl) (fun _ _ _ h => h) (Or.inl ⟨by rfl, ?h19⟩) (HB4.out) ?_
    case h19 =>
      intro wt hSw
      go_simp
      with_reducible rfl
    simp only [List.setIfInBounds_toArray, List.set_cons_zero, List.set_cons_succ]
    refine' take_U (i := 20) (d := 33) (v := _) rfl rfl (by kernel_rfl) (by kernel_rfl) (by kernel_rfl) (by kernel_rfl) (by kernel_rfl) (by kernel_rfl) (fun _ _ _ h => h) (Or.inl ⟨by rfl, ?h20⟩) (HB4.out) ?_
    case h20 =>
      intro wt hSw
      go_simp
      with_reducible rfl
    simp only [List.setIfInBounds_toArray, List.set_cons_zero, List.set_cons_succ]
    refine wpAnyU_ready (rs := [21]) (by kernel_rfl) (by simp) ?_
    refine AllReadyU.cons (o := _) rfl (fun K hK => ?_) AllReadyU.nil
    have hc := HQ4.out.1
    have hz := HQ4.out.2
    go_simp
    clear hc hz
    refine hK.out _ _ (fun h => absurd (by decide) h) ?_
    clear hK K
    refine wpAnyU_done (by kernel_rfl) ?_ _
    have HZ : Hid (Re12 B (wY5.setCell ⟨q, 1, none⟩ (.slice a42 n42 c42)) q room (.slice a42 n42 c42) (es.take k ++ [(((p, n), Value.slice na nL nc) : Tq.En × Value)] ++ es.drop k) ∧ Moved w (wY5.setCell ⟨q, 1, none⟩ (.slice a42 n42 c42)) (Fo11 (.slice (none) N c) q) (Fo11 (.slice a42 n42 c42) q)) :=
      HH.out.put HBW.out HO4.out HBX.out.size (fun x hx => by
        rw [List.append_assoc, List.mem_append, List.mem_append, List.mem_singleton] at hx
        rcases hx with hx | hx | hx
        · have hx' := List.mem_of_mem_take hx
          exact ⟨(HH.out.names x hx').1, (HH.out.names x hx').2, HH.out.few x hx'⟩
        · rw [hx]
          exact ⟨⟨_, _, _, rfl⟩, HNM.out.1, HNM.out.2⟩
        · have hx' := List.mem_of_mem_drop hx
          exact ⟨(HH.out.names x hx').1, (HH.out.names x hx').2, HH.out.few x hx'⟩)
    generalize wY5.setCell ⟨q, 1, none⟩ (.slice a42 n42 c42) = wz at *
    clear HSRC
    go_wp2
    go_end0
    exact ⟨rfl, _, HZ.out.1, HZ.out.2⟩
set_option maxRecDepth 20000 in
set_option maxHeartbeats 16000000 in
theorem refLay_some12 (B q : Nat) (g : Nat) (N c k : Nat) (room : Int) (es : List (Tq.En × Value)) (p : ByteArray) (n : Kq.Kn) (na : Option Addr) (nL nc : Nat) (w : World) (h : Re12 B w q room (.slice (some ⟨g, 0, none⟩) N c) es) (hNc : N = es.length ∧ N ≤ 1000 ∧ N ≤ c) (hr : Kq.Rises (Tq.keys (es.map (·.1)))) (hk : k = (Kq.low (Tq.keys (es.map (·.1))) p).length) (hnm : Nmo w (Fo11 (.slice (some ⟨g, 0, none⟩) N c) q) (.slice na nL nc) n.names) (hl : n.names.length ≤ 1000) :
    Calls Tryz.prog 69 #[dptr q, .agg #[.string p, .int .i64 n.made, .int .i64 n.changed, .int .i64 n.ver, .int .i64 n.kids, .int .i64 n.owner, .int .i64 n.len, .int .i64 n.cnt, .string n.data, .int .i64 n.next, .slice na nL nc]] w fun e w' => e = .returned (.tuple #[]) ∧ ∃ v', Re12 B w' q room v' (es.take k ++ [(((p, n), Value.slice na nL nc) : Tq.En × Value)] ++ es.drop k) ∧ Moved w w' (Fo11 (.slice (some ⟨g, 0, none⟩) N c) q) (Fo11 v' q) := by
  have hkl : k ≤ N := by
    have h1 := Kq.low_len (Tq.keys (es.map (·.1))) p
    unfold Tq.keys at h1 hk
    rw [List.length_map, List.length_map] at h1
    omega
  have HM : Hid (N = es.length ∧ N ≤ 1000 ∧ k ≤ N ∧ N ≤ c) := ⟨hNc.1, hNc.2.1, hkl, hNc.2.2⟩
  have HH : Hid (Re12 B w q room (.slice (some ⟨g, 0, none⟩) N c) es) := h
  have HNM : Hid (Nmo w (Fo11 (.slice (some ⟨g, 0, none⟩) N c) q) (.slice na nL nc) n.names ∧ n.names.length ≤ 1000) := ⟨hnm, hl⟩
  have HP : Hid (∀ w', Below w.heap.size w w' → ∃ t, Calls Tryz.prog 54 #[dptr q, .string p] w' fun e w1 => e = .returned (.tuple #[.int .i64 (k : Int), .bool t]) ∧ Below w'.heap.size w' w1) := fun w' hb => by
    have e := refAt_any12 q room (es.map (·.1)) p w' (h.later hb).rt (by rw [List.length_map]; omega) hr
    rw [← hk] at e
    exact ⟨_, e⟩
  have k0 : (0 : Int) ≤ (k : Int) := by omega
  have kN : (k : Int) ≤ (N : Int) := by omega
  have Nc : (N : Int) ≤ (c : Int) := by have := HM.out; omega
  have kc : (k : Int) ≤ (c : Int) := by omega
  clear h hNc hr hk hnm hl hkl
  unfold dptr at HP ⊢
  go_enter Tryz.func69, Tryz.ntmps69
  go_wp2_with fail
  have HB0 : Hid (Below w.heap.size w (w.alloc (.cells #[.string p, .int .i64 n.made, .int .i64 n.changed, .int .i64 n.ver, .int .i64 n.kids, .int .i64 n.owner, .int .i64 n.len, .int .i64 n.cnt, .string n.data, .int .i64 n.next, .slice na nL nc] 105))) := (Below.refl _ w).alloc (Nat.le_refl _) _
  obtain ⟨t, hp⟩ := HP.out _ HB0.out
  refine hp.mono ?_
  clear hp
  rintro e w1 ⟨rfl, hb⟩
  have HB1 : Hid (Below w.heap.size w w1) := HB0.out.trans (hb.mono HB0.out.size)
  have HN1 : Hid (Cb w1 w.heap.size (e11 (p, n) (.slice na nL nc)) 105) := (Cb.made w (e11 (p, n) (.slice na nL nc)) 105).below hb
  clear hb HB0
  go_wp2_with fail
  refine wp_region_U (fun w' => Below w1.drew.heap.size w1.drew w') [21] (by kernel_rfl) ?_
  have HBX : Hid (Below w.heap.size w w1.drew) := HB1.out.drew
  have HN : Hid (Cb w1.drew w.heap.size (e11 (p, n) (.slice na nL nc)) 105) := HN1.out
  generalize w1.drew = wX at *
  clear HN1 HB1 HP
  have HX : Hid (∀ w', Below wX.heap.size wX w' → w'.cell? ⟨q, 1, none⟩ = some (.slice (some ⟨g, 0, none⟩) N c) ∧ w'.cell? ⟨w.heap.size, 0, none⟩ = some (.string p) ∧ w'.cell? ⟨w.heap.size, 1, none⟩ = some (.int .i64 n.made) ∧ w'.cell? ⟨w.heap.size, 2, none⟩ = some (.int .i64 n.changed) ∧ w'.cell? ⟨w.heap.size, 3, none⟩ = some (.int .i64 n.ver) ∧ w'.cell? ⟨w.heap.size, 4, none⟩ = some (.int .i64 n.kids) ∧ w'.cell? ⟨w.heap.size, 5, none⟩ = some (.int .i64 n.owner) ∧ w'.cell? ⟨w.heap.size, 6, none⟩ = some (.int .i64 n.len) ∧ w'.cell? ⟨w.heap.size, 7, none⟩ = some (.int .i64 n.cnt) ∧ w'.cell? ⟨w.heap.size, 8, none⟩ = some (.string n.data) ∧ w'.cell? ⟨w.heap.size, 9, none⟩ = some (.int .i64 n.next) ∧ w'.cell? ⟨w.heap.size, 10, none⟩ = some (.slice na nL nc)) := fun w' hb => ⟨Below.kept (HBX.out.trans (hb.mono HBX.out.size)) ((HH.out.blk.cell 1).trans rfl), Below.kept hb (HN.out.cell 0), Below.kept hb (HN.out.cell 1), Below.kept hb (HN.out.cell 2), Below.kept hb (HN.out.cell 3), Below.kept hb (HN.out.cell 4), Below.kept hb (HN.out.cell 5), Below.kept hb (HN.out.cell 6), Below.kept hb (HN.out.cell 7), Below.kept hb (HN.out.cell 8), Below.kept hb (HN.out.cell 9), Below.kept hb (HN.out.cell 10)⟩
  have HB0 : Hid (Below wX.heap.size wX wX) := Below.refl _ _
  have HSRC : Hid (∀ w', Below wX.heap.size wX w' → Sen12 w' (.slice (some ⟨g, 0, none⟩) k c) (es.take k) ∧ Sen12 w' (.slice (if c = k then some ⟨g, 0, none⟩ else some ⟨g, k * 11, none⟩) (N - k) (c - k)) (es.drop k)) := fun w' hb0 => by
    have hb := HBX.out.trans (hb0.mono HBX.out.size)
    have hm := HM.out
    obtain ⟨g', o', c', e, hc'⟩ : ∃ g' o' c', Value.slice (some ⟨g, 0, none⟩) N c = .slice (some ⟨g', o', none⟩) es.length c' ∧ ∀ (j : Nat) y, (es11 es)[j]? = some y → w.cell? ⟨g', o' + j, none⟩ = some y := by
      rcases HH.out.src with ⟨e, _⟩ | ⟨g', o', c', e, hc'⟩
      · cases e
      · exact ⟨g', o', c', e, hc'⟩
    simp only [Value.slice.injEq, Option.some.injEq, Addr.mk.injEq, and_true] at e
    obtain ⟨⟨rfl, rfl⟩, _, rfl⟩ := e
    refine ⟨Or.inr ⟨g, 0, c, by rw [List.length_take, Nat.min_eq_left (by omega)], fun j y hy => Below.kept hb (hc' j y (es11_take hy))⟩, ?_⟩
    by_cases hcj : c = k
    · have hdr : es.drop k = [] := List.drop_eq_nil_iff.2 (by omega)
      rw [if_pos hcj]
      refine Or.inr ⟨g, 0, c - k, by rw [List.length_drop, ← hm.1], fun j y hy => ?_⟩
      rw [hdr] at hy
      simp [es11] at hy
    · rw [if_neg hcj]
      refine Or.inr ⟨g, k * 11, c - k, by rw [List.length_drop, ← hm.1], fun j y hy => ?_⟩
      have e := Below.kept hb (hc' _ y (es11_drop (by omega) hy))
      rw [Nat.zero_add] at e
      exact e
  refine' take_U (i := 0) (d := 13) (v := _) rfl rfl (by kernel_rfl) (by kernel_rfl) (by kernel_rfl) (by kernel_rfl) (by kernel_rfl) (by kernel_rfl) (fun _ _ _ h => h) (Or.inl ⟨by rfl, ?h0⟩) (HB0.out) ?_
  case h0 =>
    intro wt hSw
    go_simp
    with_reducible rfl
  simp only [List.setIfInBounds_toArray, List.set_cons_zero, List.set_cons_succ]
  refine' take_U (i := 2) (d := 15) (v := _) rfl rfl (by kernel_rfl) (by kernel_rfl) (by kernel_rfl) (by kernel_rfl) (by kernel_rfl) (by kernel_rfl) (fun _ _ _ h => h) (Or.inl ⟨by rfl, ?h2⟩) (HB0.out) ?_
  case h2 =>
    intro wt hSw
    go_simp
    with_reducible rfl
  simp only [List.setIfInBounds_toArray, List.set_cons_zero, List.set_cons_succ]
  refine' take_U (i := 3) (d := 16) (v := _) rfl rfl (by kernel_rfl) (by kernel_rfl) (by kernel_rfl) (by kernel_rfl) (by kernel_rfl) (by kernel_rfl) (fun _ _ _ h => h) (Or.inl ⟨by rfl, ?h3⟩) (HB0.out) ?_
  case h3 =>
    intro wt hSw
    go_simp
    with_reducible rfl
  simp only [List.setIfInBounds_toArray, List.set_cons_zero, List.set_cons_succ]
  refine' take_U (i := 4) (d := 17) (v := _) rfl rfl (by kernel_rfl) (by kernel_rfl) (by kernel_rfl) (by kernel_rfl) (by kernel_rfl) (by kernel_rfl) (fun _ _ _ h => h) (Or.inl ⟨by rfl, ?h4⟩) (HB0.out) ?_
  case h4 =>
    intro wt hSw
    go_simp
    with_reducible rfl
  simp only [List.setIfInBounds_toArray, List.set_cons_zero, List.set_cons_succ]
  refine' take_U (i := 5) (d := 18) (v := _) rfl rfl (by kernel_rfl) (by kernel_rfl) (by kernel_rfl) (by kernel_rfl) (by kernel_rfl) (by kernel_rfl) (fun _ _ _ h => h) (Or.inl ⟨by rfl, ?h5⟩) (HB0.out) ?_
  case h5 =>
    intro wt hSw
    obtain ⟨x1, y0, y1, y2, y3, y4, y5, y6, y7, y8, y9, y10⟩ := HX.out wt hSw
    go_simp
    with_reducible rfl
  simp only [List.setIfInBounds_toArray, List.set_cons_zero, List.set_cons_succ]
  refine' take_U (i := 6) (d := 19) (v := _) rfl rfl (by kernel_rfl) (by kernel_rfl) (by kernel_rfl) (by kernel_rfl) (by kernel_rfl) (by kernel_rfl) (fun _ _ _ h => h) (Or.inl ⟨by rfl, ?h6⟩) (HB0.out) ?_
  case h6 =>
    intro wt hSw
    go_simp
    with_reducible rfl
  simp only [List.setIfInBounds_toArray, List.set_cons_zero, List.set_cons_succ]
  refine' take_U (i := 7) (d := 20) (v := _) rfl rfl (by kernel_rfl) (by kernel_rfl) (by kernel_rfl) (by kernel_rfl) (by kernel_rfl) (by kernel_rfl) (fun _ _ _ h => h) (Or.inl ⟨by rfl, ?h7⟩) (HB0.out) ?_
  case h7 =>
    intro wt hSw
    go_simp
    with_reducible rfl
  simp only [List.setIfInBounds_toArray, List.set_cons_zero, List.set_cons_succ]
  refine' take_U (i := 9) (d := 22) (v := _) rfl rfl (by kernel_rfl) (by kernel_rfl) (by kernel_rfl) (by kernel_rfl) (by kernel_rfl) (by kernel_rfl) (fun _ _ _ h => h) (Or.inl ⟨by rfl, ?h9⟩) (HB0.out) ?_
  case h9 =>
    intro wt hSw
    obtain ⟨x1, y0, y1, y2, y3, y4, y5, y6, y7, y8, y9, y10⟩ := HX.out wt hSw
    go_simp
    with_reducible rfl
  simp only [List.setIfInBounds_toArray, List.set_cons_zero, List.set_cons_succ]
  refine' take_U (i := 12) (d := 25) (v := _) rfl rfl (by kernel_rfl) (by kernel_rfl) (by kernel_rfl) (by kernel_rfl) (by kernel_rfl) (by kernel_rfl) (fun _ _ _ h => h) (Or.inl ⟨by rfl, ?h12⟩) (HB0.out) ?_
  case h12 =>
    intro wt hSw
    go_simp
    with_reducible rfl
  simp only [List.setIfInBounds_toArray, List.set_cons_zero, List.set_cons_succ]
  refine' take_U (i := 13) (d := 26) (v := _) rfl rfl (by kernel_rfl) (by kernel_rfl) (by kernel_rfl) (by kernel_rfl) (by kernel_rfl) (by kernel_rfl) (fun _ _ _ h => h) (Or.inl ⟨by rfl, ?h13⟩) (HB0.out) ?_
  case h13 =>
    intro wt hSw
    go_simp
    with_reducible rfl
  simp only [List.setIfInBounds_toArray, List.set_cons_zero, List.set_cons_succ]
  refine' take_U (i := 14) (d := 27) (v := _) rfl rfl (by kernel_rfl) (by kernel_rfl) (by kernel_rfl) (by kernel_rfl) (by kernel_rfl) (by kernel_rfl) (fun _ _ _ h => h) (Or.inl ⟨by rfl, ?h14⟩) (HB0.out) ?_
  case h14 =>
    intro wt hSw
    go_simp
    with_reducible rfl
  simp only [List.setIfInBounds_toArray, List.set_cons_zero, List.set_cons_succ]
  refine' take_U (i := 15) (d := 28) (v := _) rfl rfl (by kernel_rfl) (by kernel_rfl) (by kernel_rfl) (by kernel_rfl) (by kernel_rfl) (by kernel_rfl) (fun _ _ _ h => h) (Or.inl ⟨by rfl, ?h15⟩) (HB0.out) ?_
  case h15 =>
    intro wt hSw
    obtain ⟨x1, y0, y1, y2, y3, y4, y5, y6, y7, y8, y9, y10⟩ := HX.out wt hSw
    go_simp
    with_reducible rfl
  simp only [List.setIfInBounds_toArray, List.set_cons_zero, List.set_cons_succ]
  refine' take_U (i := 16) (d := 29) (v := _) rfl rfl (by kernel_rfl) (by kernel_rfl) (by kernel_rfl) (by kernel_rfl) (by kernel_rfl) (by kernel_rfl) (fun _ _ _ h => h) (Or.inl ⟨by rfl, ?h16⟩) (HB0.out) ?_
  case h16 =>
    intro wt hSw
    go_simp
    with_reducible rfl
  simp only [List.setIfInBounds_toArray, List.set_cons_zero, List.set_cons_succ]
  refine' take_U (i := 17) (d := 30) (v := _) rfl rfl (by kernel_rfl) (by kernel_rfl) (by kernel_rfl) (by kernel_rfl) (by kernel_rfl) (by kernel_rfl) (fun _ _ _ h => h) (Or.inl ⟨by rfl, ?h17⟩) (HB0.out) ?_
  case h17 =>
    intro wt hSw
    go_simp
    with_reducible rfl
  simp only [List.setIfInBounds_toArray, List.set_cons_zero, List.set_cons_succ]
  refine wpAnyU_ready (rs := [1, 10]) (by kernel_rfl) (by simp) ?_
  refine AllReadyU.cons (o := _) rfl (fun K hK => ?_) (AllReadyU.cons (o := _) rfl (fun K hK => ?_) AllReadyU.nil)
  · go_simp
    obtain ⟨q0, hqq⟩ : ∃ z, z = wX.heap.size := ⟨_, rfl⟩
    rw [← hqq]
    have HB1 : Hid (Below wX.heap.size wX (wX.alloc (.cells #[] 105))) := HB0.out.alloc HB0.out.size _
    have HO1 : Hid ((wX.alloc (.cells #[] 105)).ownsRow wX.heap.size 105 11 (.slice (some ⟨q0, 0, none⟩) 0 0) ([] : List (Tq.En × Value)).length (es11 [])) := by rw [hqq]; exact World.ownsRow_made wX #[] 0 HB0.out.size (by decide) rfl
    clear hqq
    generalize wX.alloc (.cells #[] 105) = wY1 at *
    refine hK.out _ _ (fun _ _ => HB1.out) ?_
    clear hK K
    refine wpAnyU_ready (rs := [8, 10]) (by kernel_rfl) (by simp) ?_
    refine AllReadyU.cons (o := _) rfl (fun K hK => ?_) (AllReadyU.cons (o := _) rfl (fun K hK => ?_) AllReadyU.nil)
    · refine wp_ents12 _ _ rfl wX.heap.size (.slice (some ⟨q0, 0, none⟩) 0 0) (.slice (some ⟨g, 0, none⟩) k c) [] (es.take k) wY1 rfl rfl HO1.out HB1.out.size (HSRC.out _ HB1.out).1 (fun x hx => HH.out.sl x (List.mem_of_mem_take hx)) (by have := HM.out; simp only [List.length_nil, List.length_take]; omega) ?_
      intro v34 wY2 ho hb hg
      rw [List.nil_append] at ho
      have HO2 : Hid (wY2.ownsRow wX.heap.size 105 11 v34 (es.take k).length (es11 (es.take k))) := ho
      have HB2 : Hid (Below wX.heap.size wX wY2) := HB1.out.trans (hb.mono (Nat.le_refl _))
      obtain ⟨a34, c34, hv34, _⟩ := row_form ho
      obtain ⟨n34, hn34⟩ : ∃ z, z = (es.take k).length := ⟨_, rfl⟩
      rw [← hn34] at hv34
      subst hv34
      clear ho hb hg hn34
      go_simp
      refine hK.out _ _ (fun _ _ => HB2.out) ?_
      clear hK K
      refine wpAnyU_ready (rs := [10]) (by kernel_rfl) (by simp) ?_
      refine AllReadyU.cons (o := _) rfl (fun K hK => ?_) AllReadyU.nil
      go_simp
      obtain ⟨qx, hqx⟩ : ∃ z, z = wY2.heap.size := ⟨_, rfl⟩
      rw [← hqx]
      have HB3 : Hid (Below wX.heap.size wX (wY2.alloc (.cells #[.string p, .int .i64 n.made, .int .i64 n.changed, .int .i64 n.ver, .int .i64 n.kids, .int .i64 n.owner, .int .i64 n.len, .int .i64 n.cnt, .string n.data, .int .i64 n.next, .slice na nL nc] 105))) := HB2.out.alloc HB2.out.size _
      have HS3 : Hid (Sen12 (wY2.alloc (.cells #[.string p, .int .i64 n.made, .int .i64 n.changed, .int .i64 n.ver, .int .i64 n.kids, .int .i64 n.owner, .int .i64 n.len, .int .i64 n.cnt, .string n.data, .int .i64 n.next, .slice na nL nc] 105)) (.slice (some ⟨qx, 0, none⟩) 1 1) [(((p, n), Value.slice na nL nc) : Tq.En × Value)]) := by rw [hqx]; exact Sen12.one (x := (((p, n), Value.slice na nL nc) : Tq.En × Value)) (Cb.made wY2 (e11 (p, n) (.slice na nL nc)) _)
      have HQ3 : Hid (qx < (wY2.alloc (.cells #[.string p, .int .i64 n.made, .int .i64 n.changed, .int .i64 n.ver, .int .i64 n.kids, .int .i64 n.owner, .int .i64 n.len, .int .i64 n.cnt, .string n.data, .int .i64 n.next, .slice na nL nc] 105)).heap.size) := by
        have e : qx < (wY2.alloc (.cells #[.string p, .int .i64 n.made, .int .i64 n.changed, .int .i64 n.ver, .int .i64 n.kids, .int .i64 n.owner, .int .i64 n.len, .int .i64 n.cnt, .string n.data, .int .i64 n.next, .slice na nL nc] 105)).heap.size := by rw [hqx]; simp
        exact e
      have HO3 : Hid ((wY2.alloc (.cells #[.string p, .int .i64 n.made, .int .i64 n.changed, .int .i64 n.ver, .int .i64 n.kids, .int .i64 n.owner, .int .i64 n.len, .int .i64 n.cnt, .string n.data, .int .i64 n.next, .slice na nL nc] 105)).ownsRow wX.heap.size 105 11 (.slice a34 n34 c34) (es.take k).length (es11 (es.take k))) := HO2.out.alloc _
      clear hqx
      generalize wY2.alloc (.cells #[.string p, .int .i64 n.made, .int .i64 n.changed, .int .i64 n.ver, .int .i64 n.kids, .int .i64 n.owner, .int .i64 n.len, .int .i64 n.cnt, .string n.data, .int .i64 n.next, .slice na nL nc] 105) = wY3 at *
      refine hK.out _ _ (fun _ _ => HB3.out) ?_
      clear hK K
      refine wpAnyU_ready (rs := [11]) (by kernel_rfl) (by simp) ?_
      refine AllReadyU.cons (o := _) rfl (fun K hK => ?_) AllReadyU.nil
      refine wp_ents12 _ _ rfl wX.heap.size (.slice a34 n34 c34) (.slice (some ⟨qx, 0, none⟩) 1 1) (es.take k) [(((p, n), Value.slice na nL nc) : Tq.En × Value)] wY3 rfl rfl HO3.out HB3.out.size HS3.out (fun x hx => by rw [List.mem_singleton] at hx; rw [hx]; exact ⟨_, _, _, rfl⟩) (by have := HM.out; simp only [List.length_singleton, List.length_take]; omega) ?_
      intro v35 wY4 ho hb hg
      have HO5 : Hid (wY4.ownsRow wX.heap.size 105 11 v35 (es.take k ++ [(((p, n), Value.slice na nL nc) : Tq.En × Value)]).length (es11 (es.take k ++ [(((p, n), Value.slice na nL nc) : Tq.En × Value)]))) := ho
      have HB5 : Hid (Below wX.heap.size wX wY4) := HB3.out.trans (hb.mono (Nat.le_refl _))
      obtain ⟨a35, c35, hv35, _⟩ := row_form ho
      obtain ⟨n35, hn35⟩ : ∃ z, z = (es.take k ++ [(((p, n), Value.slice na nL nc) : Tq.En × Value)]).length := ⟨_, rfl⟩
      rw [← hn35] at hv35
      subst hv35
      clear ho hb hg hn35
      go_simp
      refine hK.out _ _ (fun _ _ => HB5.out) ?_
      clear hK K
      refine wpAnyU_ready (rs := [18]) (by kernel_rfl) (by simp) ?_
      refine AllReadyU.cons (o := _) rfl (fun K hK => ?_) AllReadyU.nil
      refine wp_ents12 _ _ rfl wX.heap.size (.slice a35 n35 c35) (.slice (if c = k then some ⟨g, 0, none⟩ else some ⟨g, k * 11, none⟩) (N - k) (c - k)) (es.take k ++ [(((p, n), Value.slice na nL nc) : Tq.En × Value)]) (es.drop k) wY4 rfl rfl HO5.out HB5.out.size (HSRC.out _ HB5.out).2 (fun x hx => HH.out.sl x (List.mem_of_mem_drop hx)) (by have := HM.out; simp only [List.length_append, List.length_singleton, List.length_drop, List.length_take]; omega) ?_
      intro v42 wY5 ho hb hg
      have HO4 : Hid (wY5.ownsRow wX.heap.size 105 11 v42 (es.take k ++ [(((p, n), Value.slice na nL nc) : Tq.En × Value)] ++ es.drop k).length (es11 (es.take k ++ [(((p, n), Value.slice na nL nc) : Tq.En × Value)] ++ es.drop k))) := ho
      have HB4 : Hid (Below wX.heap.size wX wY5) := HB5.out.trans (hb.mono (Nat.le_refl _))
      have HBW : Hid (Below w.heap.size w wY5) := HBX.out.trans (HB4.out.mono HBX.out.size)
      obtain ⟨a42, c42, hv42, _⟩ := row_form ho
      obtain ⟨n42, hn42⟩ : ∃ z, z = (es.take k ++ [(((p, n), Value.slice na nL nc) : Tq.En × Value)] ++ es.drop k).length := ⟨_, rfl⟩
      rw [← hn42] at hv42
      subst hv42
      clear ho hb hg hn42
      have HQ4 : Hid (wY5.cell? ⟨q, 1, none⟩ = some (.slice (some ⟨g, 0, none⟩) N c) ∧ wY5.frozen? ⟨q, 1, none⟩ = false) := ⟨Below.kept HBW.out ((HH.out.blk.cell 1).trans rfl), (HH.out.blk.below HBW.out).free 1⟩
      go_simp
      refine hK.out _ _ (fun _ _ => HB4.out) ?_
      clear hK K
      refine' take_U (i := 19) (d := 32) (v := _) rfl rfl (by kernel_rfl) (by kernel_rfl) (by kernel_rfl) (by kernel_rfl) (by kernel_rfl) (by kernel_rfl) (fun _ _ _ h => h) (Or.inl ⟨by rfl, ?h19⟩) (HB4.out) ?_
      case h19 =>
        intro wt hSw
        go_simp
        with_reducible rfl
      simp only [List.setIfInBounds_toArray, List.set_cons_zero, List.set_cons_succ]
      refine' take_U (i := 20) (d := 33) (v := _) rfl rfl (by kernel_rfl) (by kernel_rfl) (by kernel_rfl) (by kernel_rfl) (by kernel_rfl) (by kernel_rfl) (fun _ _ _ h => h) (Or.inl ⟨by rfl, ?h20⟩) (HB4.out) ?_
      case h20 =>
        intro wt hSw
        go_simp
        with_reducible rfl
      simp only [List.setIfInBounds_toArray, List.set_cons_zero, List.set_cons_succ]
      refine wpAnyU_ready (rs := [21]) (by kernel_rfl) (by simp) ?_
      refine AllReadyU.cons (o := _) rfl (fun K hK => ?_) AllReadyU.nil
      have hc := HQ4.out.1
      have hz := HQ4.out.2
      go_simp
      clear hc hz
      refine hK.out _ _ (fun h => absurd (by decide) h) ?_
      clear hK K
      refine wpAnyU_done (by kernel_rfl) ?_ _
      have HZ : Hid (Re12 B (wY5.setCell ⟨q, 1, none⟩ (.slice a42 n42 c42)) q room (.slice a42 n42 c42) (es.take k ++ [(((p, n), Value.slice na nL nc) : Tq.En × Value)] ++ es.drop k) ∧ Moved w (wY5.setCell ⟨q, 1, none⟩ (.slice a42 n42 c42)) (Fo11 (.slice (some ⟨g, 0, none⟩) N c) q) (Fo11 (.slice a42 n42 c42) q)) :=
        HH.out.put HBW.out HO4.out HBX.out.size (fun x hx => by
          rw [List.append_assoc, List.mem_append, List.mem_append, List.mem_singleton] at hx
          rcases hx with hx | hx | hx
          · have hx' := List.mem_of_mem_take hx
            exact ⟨(HH.out.names x hx').1, (HH.out.names x hx').2, HH.out.few x hx'⟩
          · rw [hx]
            exact ⟨⟨_, _, _, rfl⟩, HNM.out.1, HNM.out.2⟩
          · have hx' := List.mem_of_mem_drop hx
            exact ⟨(HH.out.names x hx').1, (HH.out.names x hx').2, HH.out.few x hx'⟩)
      generalize wY5.setCell ⟨q, 1, none⟩ (.slice a42 n42 c42) = wz at *
      clear HSRC
      generalize (if c = k then some (⟨g, 0, none⟩ : Addr) else some ⟨g, k * 11, none⟩) = au
      go_wp2
      go_end0
      exact ⟨rfl, _, HZ.out.1, HZ.out.2⟩
    · go_simp
      obtain ⟨qx, hqx⟩ : ∃ z, z = wY1.heap.size := ⟨_, rfl⟩
      rw [← hqx]
      have HB2 : Hid (Below wX.heap.size wX (wY1.alloc (.cells #[.string p, .int .i64 n.made, .int .i64 n.changed, .int .i64 n.ver, .int .i64 n.kids, .int .i64 n.owner, .int .i64 n.len, .int .i64 n.cnt, .string n.data, .int .i64 n.next, .slice na nL nc] 105))) := HB1.out.alloc HB1.out.size _
      have HS2 : Hid (Sen12 (wY1.alloc (.cells #[.string p, .int .i64 n.made, .int .i64 n.changed, .int .i64 n.ver, .int .i64 n.kids, .int .i64 n.owner, .int .i64 n.len, .int .i64 n.cnt, .string n.data, .int .i64 n.next, .slice na nL nc] 105)) (.slice (some ⟨qx, 0, none⟩) 1 1) [(((p, n), Value.slice na nL nc) : Tq.En × Value)]) := by rw [hqx]; exact Sen12.one (x := (((p, n), Value.slice na nL nc) : Tq.En × Value)) (Cb.made wY1 (e11 (p, n) (.slice na nL nc)) _)
      have HQ2 : Hid (qx < (wY1.alloc (.cells #[.string p, .int .i64 n.made, .int .i64 n.changed, .int .i64 n.ver, .int .i64 n.kids, .int .i64 n.owner, .int .i64 n.len, .int .i64 n.cnt, .string n.data, .int .i64 n.next, .slice na nL nc] 105)).heap.size) := by
        have e : qx < (wY1.alloc (.cells #[.string p, .int .i64 n.made, .int .i64 n.changed, .int .i64 n.ver, .int .i64 n.kids, .int .i64 n.owner, .int .i64 n.len, .int .i64 n.cnt, .string n.data, .int .i64 n.next, .slice na nL nc] 105)).heap.size := by rw [hqx]; simp
        exact e
      have HO2 : Hid ((wY1.alloc (.cells #[.string p, .int .i64 n.made, .int .i64 n.changed, .int .i64 n.ver, .int .i64 n.kids, .int .i64 n.owner, .int .i64 n.len, .int .i64 n.cnt, .string n.data, .int .i64 n.next, .slice na nL nc] 105)).ownsRow wX.heap.size 105 11 (.slice (some ⟨q0, 0, none⟩) 0 0) ([] : List (Tq.En × Value)).length (es11 [])) := HO1.out.alloc _
      have HNE : Hid (q0 ≠ qx) := by
        have e := (HO1.out.lt q0 rfl).2
        have e2 : q0 ≠ qx := by omega
        exact e2
      clear hqx
      generalize wY1.alloc (.cells #[.string p, .int .i64 n.made, .int .i64 n.changed, .int .i64 n.ver, .int .i64 n.kids, .int .i64 n.owner, .int .i64 n.len, .int .i64 n.cnt, .string n.data, .int .i64 n.next, .slice na nL nc] 105) = wY2 at *
      refine hK.out _ _ (fun _ _ => HB2.out) ?_
      clear hK K
      refine wpAnyU_ready (rs := [8]) (by kernel_rfl) (by simp) ?_
      refine AllReadyU.cons (o := _) rfl (fun K hK => ?_) AllReadyU.nil
      refine wp_ents12 _ _ rfl wX.heap.size (.slice (some ⟨q0, 0, none⟩) 0 0) (.slice (some ⟨g, 0, none⟩) k c) [] (es.take k) wY2 rfl rfl HO2.out HB2.out.size (HSRC.out _ HB2.out).1 (fun x hx => HH.out.sl x (List.mem_of_mem_take hx)) (by have := HM.out; simp only [List.length_nil, List.length_take]; omega) ?_
      intro v34 wY3 ho hb hg
      rw [List.nil_append] at ho
      have HO3 : Hid (wY3.ownsRow wX.heap.size 105 11 v34 (es.take k).length (es11 (es.take k))) := ho
      have HB3 : Hid (Below wX.heap.size wX wY3) := HB2.out.trans (hb.mono (Nat.le_refl _))
      have HS3 : Hid (Sen12 wY3 (.slice (some ⟨qx, 0, none⟩) 1 1) [(((p, n), Value.slice na nL nc) : Tq.En × Value)]) := HS2.out.grown hg (fun e => HNE.out (by simpa [Value.ownBlock] using e))
      obtain ⟨a34, c34, hv34, _⟩ := row_form ho
      obtain ⟨n34, hn34⟩ : ∃ z, z = (es.take k).length := ⟨_, rfl⟩
      rw [← hn34] at hv34
      subst hv34
      clear ho hb hg hn34
      go_simp
      refine hK.out _ _ (fun _ _ => HB3.out) ?_
      clear hK K
      refine wpAnyU_ready (rs := [11]) (by kernel_rfl) (by simp) ?_
      refine AllReadyU.cons (o := _) rfl (fun K hK => ?_) AllReadyU.nil
      refine wp_ents12 _ _ rfl wX.heap.size (.slice a34 n34 c34) (.slice (some ⟨qx, 0, none⟩) 1 1) (es.take k) [(((p, n), Value.slice na nL nc) : Tq.En × Value)] wY3 rfl rfl HO3.out HB3.out.size HS3.out (fun x hx => by rw [List.mem_singleton] at hx; rw [hx]; exact ⟨_, _, _, rfl⟩) (by have := HM.out; simp only [List.length_singleton, List.length_take]; omega) ?_
      intro v35 wY4 ho hb hg
      have HO5 : Hid (wY4.ownsRow wX.heap.size 105 11 v35 (es.take k ++ [(((p, n), Value.slice na nL nc) : Tq.En × Value)]).length (es11 (es.take k ++ [(((p, n), Value.slice na nL nc) : Tq.En × Value)]))) := ho
      have HB5 : Hid (Below wX.heap.size wX wY4) := HB3.out.trans (hb.mono (Nat.le_refl _))
      obtain ⟨a35, c35, hv35, _⟩ := row_form ho
      obtain ⟨n35, hn35⟩ : ∃ z, z = (es.take k ++ [(((p, n), Value.slice na nL nc) : Tq.En × Value)]).length := ⟨_, rfl⟩
      rw [← hn35] at hv35
      subst hv35
      clear ho hb hg hn35
      go_simp
      refine hK.out _ _ (fun _ _ => HB5.out) ?_
      clear hK K
      refine wpAnyU_ready (rs := [18]) (by kernel_rfl) (by simp) ?_
      refine AllReadyU.cons (o := _) rfl (fun K hK => ?_) AllReadyU.nil
      refine wp_ents12 _ _ rfl wX.heap.size (.slice a35 n35 c35) (.slice (if c = k then some ⟨g, 0, none⟩ else some ⟨g, k * 11, none⟩) (N - k) (c - k)) (es.take k ++ [(((p, n), Value.slice na nL nc) : Tq.En × Value)]) (es.drop k) wY4 rfl rfl HO5.out HB5.out.size (HSRC.out _ HB5.out).2 (fun x hx => HH.out.sl x (List.mem_of_mem_drop hx)) (by have := HM.out; simp only [List.length_append, List.length_singleton, List.length_drop, List.length_take]; omega) ?_
      intro v42 wY5 ho hb hg
      have HO4 : Hid (wY5.ownsRow wX.heap.size 105 11 v42 (es.take k ++ [(((p, n), Value.slice na nL nc) : Tq.En × Value)] ++ es.drop k).length (es11 (es.take k ++ [(((p, n), Value.slice na nL nc) : Tq.En × Value)] ++ es.drop k))) := ho
      have HB4 : Hid (Below wX.heap.size wX wY5) := HB5.out.trans (hb.mono (Nat.le_refl _))
      have HBW : Hid (Below w.heap.size w wY5) := HBX.out.trans (HB4.out.mono HBX.out.size)
      obtain ⟨a42, c42, hv42, _⟩ := row_form ho
      obtain ⟨n42, hn42⟩ : ∃ z, z = (es.take k ++ [(((p, n), Value.slice na nL nc) : Tq.En × Value)] ++ es.drop k).length := ⟨_, rfl⟩
      rw [← hn42] at hv42
      subst hv42
      clear ho hb hg hn42
      have HQ4 : Hid (wY5.cell? ⟨q, 1, none⟩ = some (.slice (some ⟨g, 0, none⟩) N c) ∧ wY5.frozen? ⟨q, 1, none⟩ = false) := ⟨Below.kept HBW.out ((HH.out.blk.cell 1).trans rfl), (HH.out.blk.below HBW.out).free 1⟩
      go_simp
      refine hK.out _ _ (fun _ _ => HB4.out) ?_
      clear hK K
      refine' take_U (i := 19) (d := 32) (v := _) rfl rfl (by kernel_rfl) (by kernel_rfl) (by kernel_rfl) (by kernel_rfl) (by kernel_rfl) (by kernel_rfl) (fun _ _ _ h => h) (Or.inl ⟨by rfl, ?h19⟩) (HB4.out) ?_
      case h19 =>
        intro wt hSw
        go_simp
        with_reducible rfl
      simp only [List.setIfInBounds_toArray, List.set_cons_zero, List.set_cons_succ]
      refine' take_U (i := 20) (d := 33) (v := _) rfl rfl (by kernel_rfl) (by kernel_rfl) (by kernel_rfl) (by kernel_rfl) (by kernel_rfl) (by kernel_rfl) (fun _ _ _ h => h) (Or.inl ⟨by rfl, ?h20⟩) (HB4.out) ?_
      case h20 =>
        intro wt hSw
        go_simp
        with_reducible rfl
      simp only [List.setIfInBounds_toArray, List.set_cons_zero, List.set_cons_succ]
      refine wpAnyU_ready (rs := [21]) (by kernel_rfl) (by simp) ?_
      refine AllReadyU.cons (o := _) rfl (fun K hK => ?_) AllReadyU.nil
      have hc := HQ4.out.1
      have hz := HQ4.out.2
      go_simp
      clear hc hz
      refine hK.out _ _ (fun h => absurd (by decide) h) ?_
      clear hK K
      refine wpAnyU_done (by kernel_rfl) ?_ _
      have HZ : Hid (Re12 B (wY5.setCell ⟨q, 1, none⟩ (.slice a42 n42 c42)) q room (.slice a42 n42 c42) (es.take k ++ [(((p, n), Value.slice na nL nc) : Tq.En × Value)] ++ es.drop k) ∧ Moved w (wY5.setCell ⟨q, 1, none⟩ (.slice a42 n42 c42)) (Fo11 (.slice (some ⟨g, 0, none⟩) N c) q) (Fo11 (.slice a42 n42 c42) q)) :=
        HH.out.put HBW.out HO4.out HBX.out.size (fun x hx => by
          rw [List.append_assoc, List.mem_append, List.mem_append, List.mem_singleton] at hx
          rcases hx with hx | hx | hx
          · have hx' := List.mem_of_mem_take hx
            exact ⟨(HH.out.names x hx').1, (HH.out.names x hx').2, HH.out.few x hx'⟩
          · rw [hx]
            exact ⟨⟨_, _, _, rfl⟩, HNM.out.1, HNM.out.2⟩
          · have hx' := List.mem_of_mem_drop hx
            exact ⟨(HH.out.names x hx').1, (HH.out.names x hx').2, HH.out.few x hx'⟩)
      generalize wY5.setCell ⟨q, 1, none⟩ (.slice a42 n42 c42) = wz at *
      clear HSRC
      generalize (if c = k then some (⟨g, 0, none⟩ : Addr) else some ⟨g, k * 11, none⟩) = au
      go_wp2
      go_end0
      exact ⟨rfl, _, HZ.out.1, HZ.out.2⟩
  · go_simp
    obtain ⟨qx, hqx⟩ : ∃ z, z = wX.heap.size := ⟨_, rfl⟩
    rw [← hqx]
    have HB1 : Hid (Below wX.heap.size wX (wX.alloc (.cells #[.string p, .int .i64 n.made, .int .i64 n.changed, .int .i64 n.ver, .int .i64 n.kids, .int .i64 n.owner, .int .i64 n.len, .int .i64 n.cnt, .string n.data, .int .i64 n.next, .slice na nL nc] 105))) := HB0.out.alloc HB0.out.size _
    have HS1 : Hid (Sen12 (wX.alloc (.cells #[.string p, .int .i64 n.made, .int .i64 n.changed, .int .i64 n.ver, .int .i64 n.kids, .int .i64 n.owner, .int .i64 n.len, .int .i64 n.cnt, .string n.data, .int .i64 n.next, .slice na nL nc] 105)) (.slice (some ⟨qx, 0, none⟩) 1 1) [(((p, n), Value.slice na nL nc) : Tq.En × Value)]) := by rw [hqx]; exact Sen12.one (x := (((p, n), Value.slice na nL nc) : Tq.En × Value)) (Cb.made wX (e11 (p, n) (.slice na nL nc)) _)
    have HQ1 : Hid (qx < (wX.alloc (.cells #[.string p, .int .i64 n.made, .int .i64 n.changed, .int .i64 n.ver, .int .i64 n.kids, .int .i64 n.owner, .int .i64 n.len, .int .i64 n.cnt, .string n.data, .int .i64 n.next, .slice na nL nc] 105)).heap.size) := by
      have e : qx < (wX.alloc (.cells #[.string p, .int .i64 n.made, .int .i64 n.changed, .int .i64 n.ver, .int .i64 n.kids, .int .i64 n.owner, .int .i64 n.len, .int .i64 n.cnt, .string n.data, .int .i64 n.next, .slice na nL nc] 105)).heap.size := by rw [hqx]; simp
      exact e
    clear hqx
    generalize wX.alloc (.cells #[.string p, .int .i64 n.made, .int .i64 n.changed, .int .i64 n.ver, .int .i64 n.kids, .int .i64 n.owner, .int .i64 n.len, .int .i64 n.cnt, .string n.data, .int .i64 n.next, .slice na nL nc] 105) = wY1 at *
    refine hK.out _ _ (fun _ _ => HB1.out) ?_
    clear hK K
    refine wpAnyU_ready (rs := [1]) (by kernel_rfl) (by simp) ?_
    refine AllReadyU.cons (o := _) rfl (fun K hK => ?_) AllReadyU.nil
    go_simp
    obtain ⟨q0, hqq⟩ : ∃ z, z = wY1.heap.size := ⟨_, rfl⟩
    rw [← hqq]
    have HB2 : Hid (Below wX.heap.size wX (wY1.alloc (.cells #[] 105))) := HB1.out.alloc HB1.out.size _
    have HO2 : Hid ((wY1.alloc (.cells #[] 105)).ownsRow wX.heap.size 105 11 (.slice (some ⟨q0, 0, none⟩) 0 0) ([] : List (Tq.En × Value)).length (es11 [])) := by rw [hqq]; exact World.ownsRow_made wY1 #[] 0 HB1.out.size (by decide) rfl
    have HS2 : Hid (Sen12 (wY1.alloc (.cells #[] 105)) (.slice (some ⟨qx, 0, none⟩) 1 1) [(((p, n), Value.slice na nL nc) : Tq.En × Value)]) := HS1.out.below ((Below.refl _ _).alloc (Nat.le_refl _) _)
    have HNE : Hid (q0 ≠ qx) := by
      have e := HQ1.out
      have e2 : q0 ≠ qx := by omega
      exact e2
    clear hqq
    generalize wY1.alloc (.cells #[] 105) = wY2 at *
    refine hK.out _ _ (fun _ _ => HB2.out) ?_
    clear hK K
    refine wpAnyU_ready (rs := [8]) (by kernel_rfl) (by simp) ?_
    refine AllReadyU.cons (o := _) rfl (fun K hK => ?_) AllReadyU.nil
    refine wp_ents12 _ _ rfl wX.heap.size (.slice (some ⟨q0, 0, none⟩) 0 0) (.slice (some ⟨g, 0, none⟩) k c) [] (es.take k) wY2 rfl rfl HO2.out HB2.out.size (HSRC.out _ HB2.out).1 (fun x hx => HH.out.sl x (List.mem_of_mem_take hx)) (by have := HM.out; simp only [List.length_nil, List.length_take]; omega) ?_
    intro v34 wY3 ho hb hg
    rw [List.nil_append] at ho
    have HO3 : Hid (wY3.ownsRow wX.heap.size 105 11 v34 (es.take k).length (es11 (es.take k))) := ho
    have HB3 : Hid (Below wX.heap.size wX wY3) := HB2.out.trans (hb.mono (Nat.le_refl _))
    have HS3 : Hid (Sen12 wY3 (.slice (some ⟨qx, 0, none⟩) 1 1) [(((p, n), Value.slice na nL nc) : Tq.En × Value)]) := HS2.out.grown hg (fun e => HNE.out (by simpa [Value.ownBlock] using e))
    obtain ⟨a34, c34, hv34, _⟩ := row_form ho
    obtain ⟨n34, hn34⟩ : ∃ z, z = (es.take k).length := ⟨_, rfl⟩
    rw [← hn34] at hv34
    subst hv34
    clear ho hb hg hn34
    go_simp
    refine hK.out _ _ (fun _ _ => HB3.out) ?_
    clear hK K
    refine wpAnyU_ready (rs := [11]) (by kernel_rfl) (by simp) ?_
    refine AllReadyU.cons (o := _) rfl (fun K hK => ?_) AllReadyU.nil
    refine wp_ents12 _ _ rfl wX.heap.size (.slice a34 n34 c34) (.slice (some ⟨qx, 0, none⟩) 1 1) (es.take k) [(((p, n), Value.slice na nL nc) : Tq.En × Value)] wY3 rfl rfl HO3.out HB3.out.size HS3.out (fun x hx => by rw [List.mem_singleton] at hx; rw [hx]; exact ⟨_, _, _, rfl⟩) (by have := HM.out; simp only [List.length_singleton, List.length_take]; omega) ?_
    intro v35 wY4 ho hb hg
    have HO5 : Hid (wY4.ownsRow wX.heap.size 105 11 v35 (es.take k ++ [(((p, n), Value.slice na nL nc) : Tq.En × Value)]).length (es11 (es.take k ++ [(((p, n), Value.slice na nL nc) : Tq.En × Value)]))) := ho
    have HB5 : Hid (Below wX.heap.size wX wY4) := HB3.out.trans (hb.mono (Nat.le_refl _))
    obtain ⟨a35, c35, hv35, _⟩ := row_form ho
    obtain ⟨n35, hn35⟩ : ∃ z, z = (es.take k ++ [(((p, n), Value.slice na nL nc) : Tq.En × Value)]).length := ⟨_, rfl⟩
    rw [← hn35] at hv35
    subst hv35
    clear ho hb hg hn35
    go_simp
    refine hK.out _ _ (fun _ _ => HB5.out) ?_
    clear hK K
    refine wpAnyU_ready (rs := [18]) (by kernel_rfl) (by simp) ?_
    refine AllReadyU.cons (o := _) rfl (fun K hK => ?_) AllReadyU.nil
    refine wp_ents12 _ _ rfl wX.heap.size (.slice a35 n35 c35) (.slice (if c = k then some ⟨g, 0, none⟩ else some ⟨g, k * 11, none⟩) (N - k) (c - k)) (es.take k ++ [(((p, n), Value.slice na nL nc) : Tq.En × Value)]) (es.drop k) wY4 rfl rfl HO5.out HB5.out.size (HSRC.out _ HB5.out).2 (fun x hx => HH.out.sl x (List.mem_of_mem_drop hx)) (by have := HM.out; simp only [List.length_append, List.length_singleton, List.length_drop, List.length_take]; omega) ?_
    intro v42 wY5 ho hb hg
    have HO4 : Hid (wY5.ownsRow wX.heap.size 105 11 v42 (es.take k ++ [(((p, n), Value.slice na nL nc) : Tq.En × Value)] ++ es.drop k).length (es11 (es.take k ++ [(((p, n), Value.slice na nL nc) : Tq.En × Value)] ++ es.drop k))) := ho
    have HB4 : Hid (Below wX.heap.size wX wY5) := HB5.out.trans (hb.mono (Nat.le_refl _))
    have HBW : Hid (Below w.heap.size w wY5) := HBX.out.trans (HB4.out.mono HBX.out.size)
    obtain ⟨a42, c42, hv42, _⟩ := row_form ho
    obtain ⟨n42, hn42⟩ : ∃ z, z = (es.take k ++ [(((p, n), Value.slice na nL nc) : Tq.En × Value)] ++ es.drop k).length := ⟨_, rfl⟩
    rw [← hn42] at hv42
    subst hv42
    clear ho hb hg hn42
    have HQ4 : Hid (wY5.cell? ⟨q, 1, none⟩ = some (.slice (some ⟨g, 0, none⟩) N c) ∧ wY5.frozen? ⟨q, 1, none⟩ = false) := ⟨Below.kept HBW.out ((HH.out.blk.cell 1).trans rfl), (HH.out.blk.below HBW.out).free 1⟩
    go_simp
    refine hK.out _ _ (fun _ _ => HB4.out) ?_
    clear hK K
    refine' take_U (i := 19) (d := 32) (v := _) rfl rfl (by kernel_rfl) (by kernel_rfl) (by kernel_rfl) (by kernel_rfl) (by kernel_rfl) (by kernel_rfl) (fun _ _ _ h => h) (Or.inl ⟨by rfl, ?h19⟩) (HB4.out) ?_
    case h19 =>
      intro wt hSw
      go_simp
      with_reducible rfl
    simp only [List.setIfInBounds_toArray, List.set_cons_zero, List.set_cons_succ]
    refine' take_U (i := 20) (d := 33) (v := _) rfl rfl (by kernel_rfl) (by kernel_rfl) (by kernel_rfl) (by kernel_rfl) (by kernel_rfl) (by kernel_rfl) (fun _ _ _ h => h) (Or.inl ⟨by rfl, ?h20⟩) (HB4.out) ?_
    case h20 =>
      intro wt hSw
      go_simp
      with_reducible rfl
    simp only [List.setIfInBounds_toArray, List.set_cons_zero, List.set_cons_succ]
    refine wpAnyU_ready (rs := [21]) (by kernel_rfl) (by simp) ?_
    refine AllReadyU.cons (o := _) rfl (fun K hK => ?_) AllReadyU.nil
    have hc := HQ4.out.1
    have hz := HQ4.out.2
    go_simp
    clear hc hz
    refine hK.out _ _ (fun h => absurd (by decide) h) ?_
    clear hK K
    refine wpAnyU_done (by kernel_rfl) ?_ _
    have HZ : Hid (Re12 B (wY5.setCell ⟨q, 1, none⟩ (.slice a42 n42 c42)) q room (.slice a42 n42 c42) (es.take k ++ [(((p, n), Value.slice na nL nc) : Tq.En × Value)] ++ es.drop k) ∧ Moved w (wY5.setCell ⟨q, 1, none⟩ (.slice a42 n42 c42)) (Fo11 (.slice (some ⟨g, 0, none⟩) N c) q) (Fo11 (.slice a42 n42 c42) q)) :=
      HH.out.put HBW.out HO4.out HBX.out.size (fun x hx => by
        rw [List.append_assoc, List.mem_append, List.mem_append, List.mem_singleton] at hx
        rcases hx with hx | hx | hx
        · have hx' := List.mem_of_mem_take hx
          exact ⟨(HH.out.names x hx').1, (HH.out.names x hx').2, HH.out.few x hx'⟩
        · rw [hx]
          exact ⟨⟨_, _, _, rfl⟩, HNM.out.1, HNM.out.2⟩
        · have hx' := List.mem_of_mem_drop hx
          exact ⟨(HH.out.names x hx').1, (HH.out.names x hx').2, HH.out.few x hx'⟩)
    generalize wY5.setCell ⟨q, 1, none⟩ (.slice a42 n42 c42) = wz at *
    clear HSRC
    generalize (if c = k then some (⟨g, 0, none⟩ : Addr) else some ⟨g, k * 11, none⟩) = au
    go_wp2
    go_end0
    exact ⟨rfl, _, HZ.out.1, HZ.out.2⟩
theorem refLay_any12 (B q k : Nat) (v : Value) (room : Int) (es : List (Tq.En × Value)) (p : ByteArray) (n : Kq.Kn) (na : Option Addr) (nL nc : Nat) (w : World) (h : Re12 B w q room v es) (hN : es.length ≤ 1000) (hr : Kq.Rises (Tq.keys (es.map (·.1)))) (hk : k = (Kq.low (Tq.keys (es.map (·.1))) p).length) (hnm : Nmo w (Fo11 v q) (.slice na nL nc) n.names) (hl : n.names.length ≤ 1000) :
    Calls Tryz.prog 69 #[dptr q, .agg #[.string p, .int .i64 n.made, .int .i64 n.changed, .int .i64 n.ver, .int .i64 n.kids, .int .i64 n.owner, .int .i64 n.len, .int .i64 n.cnt, .string n.data, .int .i64 n.next, .slice na nL nc]] w fun e w' => e = .returned (.tuple #[]) ∧ ∃ v', Re12 B w' q room v' (es.take k ++ [(((p, n), Value.slice na nL nc) : Tq.En × Value)] ++ es.drop k) ∧ Moved w w' (Fo11 v q) (Fo11 v' q) := by
  rcases h.row.2 with ⟨e, h0⟩ | ⟨g, cap, cur, e, _, _, hn, _⟩
  · subst e
    exact refLay_none12 B q 0 0 k room es p n na nL nc w h ⟨h0.symm, Nat.zero_le _, Nat.le_refl _, rfl, rfl⟩ hr hk hnm hl
  · subst e
    exact refLay_some12 B q g es.length cap k room es p n na nL nc w h ⟨rfl, hN, hn⟩ hr hk hnm hl
end Go.Proofs.YtpidafpaffpnaaaGreatDoor
namespace Go.Proofs.YtpidafpaffpnaaaGreatDoor.Tq
open Kq

theorem keys_len (l : List En) : (keys l).length = l.length := by unfold keys; rw [List.length_map]
theorem keys_get {l : List En} {k : Nat} {e : En} (h : l[k]? = some e) : (keys l)[k]? = some e.1 := by unfold keys; rw [List.getElem?_map, h]; rfl
theorem at_there {l : List En} {u : ByteArray} (hr : Rises (keys l)) (hh : has (keys l) u = true) : ∃ n, l[(Kq.low (keys l) u).length]? = some (u, n) ∧ find l u = some n := by
  have hk := (del_cut hr (has_iff.1 hh)).2
  have hk2 : (Kq.low (keys l) u).length < l.length := by rw [← keys_len l]; exact hk
  have he : l[(Kq.low (keys l) u).length]? = some l[(Kq.low (keys l) u).length] := List.getElem?_eq_getElem hk2
  obtain ⟨_, h2⟩ := low_end hr (keys_get he)
  rw [hh] at h2
  have h3 := of_decide_eq_true h2.symm
  generalize l[(Kq.low (keys l) u).length] = e at he h3
  obtain ⟨p, n⟩ := e
  subst h3
  exact ⟨n, he, find_of hr (List.mem_of_getElem? he)⟩
theorem at_not {l : List En} {u : ByteArray} (hh : has (keys l) u = false) : find l u = none := by
  cases he : find l u with
  | none => rfl
  | some n =>
    have h1 := find_some he
    have h2 : u ∈ keys l := List.mem_map.2 ⟨_, h1, rfl⟩
    rw [has_iff.2 h2] at hh
    cases hh
theorem set_at {l : List En} {k : Nat} {u : ByteArray} {n : Kn} (m : Kn) (hr : Rises (keys l)) (h : l[k]? = some (u, n)) : l.set k (u, m) = set l u m := by
  have hk := (List.getElem?_eq_some_iff.1 h).1
  have hrk := List.pairwise_iff_getElem.1 hr
  apply List.ext_getElem?
  intro j
  unfold set
  rw [List.getElem?_set, List.getElem?_map]
  by_cases hj : k = j
  · subst hj
    rw [if_pos rfl, if_pos hk, h]
    simp
  · rw [if_neg hj]
    cases he : l[j]? with
    | none => rfl
    | some e =>
      have hj2 := (List.getElem?_eq_some_iff.1 he).1
      have hne : e.1 ≠ u := by
        have a1 := keys_get he
        have a2 := keys_get h
        have b1 := (List.getElem?_eq_some_iff.1 a1).2
        have b2 := (List.getElem?_eq_some_iff.1 a2).2
        intro e3
        rcases Nat.lt_or_gt_of_ne hj with h1 | h1
        · have := hrk k j (by rw [keys_len]; exact hk) (by rw [keys_len]; exact hj2) h1
          rw [b1, b2, e3, lt_irrefl] at this
          cases this
        · have := hrk j k (by rw [keys_len]; exact hj2) (by rw [keys_len]; exact hk) h1
          rw [b1, b2, e3, lt_irrefl] at this
          cases this
      simp [hne]
theorem del_at {l : List En} {k : Nat} {u : ByteArray} {n : Kn} (hr : Rises (keys l)) (h : l[k]? = some (u, n)) : l.take k ++ l.drop (k + 1) = del l u := by
  have hk := (List.getElem?_eq_some_iff.1 h).1
  have hl : l = l.take k ++ (u, n) :: l.drop (k + 1) := by
    conv => lhs; rw [← List.take_append_drop k l]
    rw [List.drop_eq_getElem_cons hk]
    congr 2
    exact Option.some.inj ((List.getElem?_eq_getElem hk).symm.trans h)
  generalize l.take k = a at *
  generalize l.drop (k + 1) = b at *
  subst hl
  unfold keys at hr
  rw [List.map_append, List.map_cons] at hr
  obtain ⟨_, h2, h3⟩ := List.pairwise_append.1 hr
  have h4 := (List.pairwise_cons.1 h2).1
  unfold del
  rw [List.filter_append, List.filter_cons_of_neg (by simp)]
  have e1 : a.filter (fun e => decide (e.1 ≠ u)) = a := List.filter_eq_self.2 (fun e he => by
    have := h3 e.1 (List.mem_map.2 ⟨e, he, rfl⟩) u List.mem_cons_self
    simpa using lt_ne this)
  have e2 : b.filter (fun e => decide (e.1 ≠ u)) = b := List.filter_eq_self.2 (fun e he => by
    have := h4 e.1 (List.mem_map.2 ⟨e, he, rfl⟩)
    simpa using (lt_ne this).symm)
  rw [e1, e2]
theorem del_map12 {es : List (En × Value)} {k : Nat} {u : ByteArray} {n : Kn} (hr : Rises (keys (es.map (·.1)))) (h : (es.map (·.1))[k]? = some (u, n)) : (es.take k ++ es.drop (k + 1)).map (·.1) = del (es.map (·.1)) u := by
  rw [← del_at hr h, List.map_append, List.map_take, List.map_drop]
theorem low_keys (l : List En) (p : ByteArray) : Kq.low (keys l) p = (low l p).map (·.1) := by unfold Kq.low low keys; rw [List.takeWhile_map]; rfl
theorem low_high12 (l : List En) (p : ByteArray) : low l p ++ high l p = l := List.takeWhile_append_dropWhile
theorem ins_at (l : List En) (p : ByteArray) (m : Kn) : l.take (Kq.low (keys l) p).length ++ [(p, m)] ++ l.drop (Kq.low (keys l) p).length = ins l p m := by
  rw [low_keys, List.length_map]
  have e := low_high12 l p
  have e1 : l.take (low l p).length = low l p := by
    conv => lhs; arg 2; rw [← e]
    exact List.take_left' rfl
  have e2 : l.drop (low l p).length = high l p := by
    conv => lhs; arg 2; rw [← e]
    exact List.drop_left' rfl
  rw [e1, e2]
  unfold ins
  simp
theorem ins_map12 (es : List (En × Value)) (p : ByteArray) (m : Kn) (nv : Value) (k : Nat) (hk : k = (Kq.low (keys (es.map (·.1))) p).length) : (es.take k ++ [((p, m), nv)] ++ es.drop k).map (·.1) = ins (es.map (·.1)) p m := by
  rw [← ins_at, ← hk, List.map_append, List.map_append, List.map_take, List.map_drop]
  rfl
theorem map_set12 (es : List (En × Value)) (k : Nat) (y : En × Value) : (es.set k y).map (·.1) = (es.map (·.1)).set k y.1 := by rw [List.map_set]
theorem get_map12 {es : List (En × Value)} {k : Nat} {e : En} (h : (es.map (·.1))[k]? = some e) : ∃ v, es[k]? = some (e, v) := by
  rw [List.getElem?_map] at h
  cases hx : es[k]? with
  | none => rw [hx] at h; cases h
  | some x =>
    rw [hx] at h
    simp only [Option.map_some, Option.some.injEq] at h
    exact ⟨x.2, by rw [← h]⟩
end Go.Proofs.YtpidafpaffpnaaaGreatDoor.Tq
namespace Go.Proofs.YtpidafpaffpnaaaGreatDoor
open Go.RowKit
set_option maxRecDepth 20000 in
set_option maxHeartbeats 2000000 in
theorem refPlace_any (u : Value) (ss : List ByteArray) (s : ByteArray) (w : World) (h : Ss w u ss) (hN : ss.length ≤ 100000) (hr : Kq.Rises ss) :
    Calls Tryz.prog 102 #[u, .string s] w fun e w' => e = .returned (.tuple #[.int .i64 ((Kq.low ss s).length : Int), .bool (Kq.has ss s)]) ∧ Below w.heap.size w w' := by
  obtain ⟨av, N, c, rfl, hk, hc⟩ := h
  obtain ⟨L, hL⟩ : ∃ L, L = (Kq.low ss s).length := ⟨_, rfl⟩
  obtain ⟨t, ht⟩ : ∃ t, t = Kq.has ss s := ⟨_, rfl⟩
  have HC : Hid ((∀ (j : Nat) s, ss[j]? = some s → ∃ g o, av = some ⟨g, o, none⟩ ∧ w.cell? ⟨g, o + j, none⟩ = some (.string s)) ∧ N = ss.length) := ⟨hc, hk⟩
  have HL : Hid (L = (Kq.low ss s).length ∧ t = Kq.has ss s ∧ Kq.Rises ss) := ⟨hL, ht, hr⟩
  have hN1 : N ≤ 100000 := by omega
  have hLN : L ≤ N := by have := Kq.low_len ss s; omega
  rw [← hL, ← ht]
  clear hc hk hN hL ht hr
  go_enter Tryz.func102, Tryz.ntmps102
  go_wp2
  go_loopw [6] (fun i wr => ∃ k : Nat, k ≤ L ∧ i = .int .i64 (k : Int) ∧ Below w.heap.size w wr) (fun i _ => N + 1 - (intOf i).toNat)
  case atStart => exact ⟨0, Nat.zero_le _, rfl, Below.refl _ _⟩
  case round =>
    obtain ⟨k, hk, rfl, hb⟩ := hrel
    have HR : Hid (Below w.heap.size w wr) := hb
    clear hb
    have i1 : (0 : Int) ≤ (k : Int) := by omega
    by_cases hlt : k < L
    · have hlt' : (k : Int) < (N : Int) := by omega
      have hwk : IntKind.wrap .i64 ((k : Int) + 1) = (k : Int) + 1 := by rw [IntKind.wrap_i64]; omega
      obtain ⟨x, hx, hxl⟩ := Kq.low_at (l := ss) (s := s) (k := k) (by have := HL.out.1; omega)
      obtain ⟨g, o, hav, lx⟩ := HC.out.1 k x hx
      subst hav
      have lx' : wr.cell? ⟨g, o + k, none⟩ = some (.string x) := Below.kept HR.out lx
      clear lx hx
      have hless : Op.bytesLess x.toList s.toList = true := hxl
      clear hxl
      go_wp2
      go_roundw
      case rel => exact ⟨k + 1, by omega, by go_num, HR.out⟩
      case measure => simp [intOf]; omega
    · obtain rfl : k = L := by omega
      clear hlt hk
      by_cases hlt : k < N
      · have hlt' : (k : Int) < (N : Int) := by omega
        obtain ⟨x, hx⟩ : ∃ x, ss[k]? = some x := ⟨_, List.getElem?_eq_getElem (by have := HC.out.2; omega)⟩
        obtain ⟨hxl, hxe⟩ := Kq.low_end HL.out.2.2 (by rw [← HL.out.1]; exact hx)
        obtain ⟨g, o, hav, lx⟩ := HC.out.1 k x hx
        subst hav
        have lx' : wr.cell? ⟨g, o + k, none⟩ = some (.string x) := Below.kept HR.out lx
        have hless : Op.bytesLess x.toList s.toList = false := hxl
        have heq : (x.toList == s.toList) = t := by
          rw [HL.out.2.1, hxe, Bool.eq_iff_iff, decide_eq_true_eq]
          exact ⟨fun h => bytes_eq h, fun h => by rw [h]; simp⟩
        clear lx hx hxl hxe
        go_wp2_with fail
        go_quiet (fail)
        have lx2 : (wr.drewN nq).cell? ⟨g, o + k, none⟩ = some (.string x) := lx'
        clear lx'
        have HB : Hid (Below w.heap.size w (wr.drewN nq)) := below_drewN HR.out _
        go_wp2_with fail
        go_ret2
        exact ⟨rfl, HB.out⟩
      · have hlt' : ¬ (k : Int) < (N : Int) := by omega
        obtain rfl : t = false := by rw [HL.out.2.1]; exact Kq.low_all HL.out.2.2 (by have := HL.out.1; have := HC.out.2; omega)
        go_wp2_with fail
        go_quiet (fail)
        have HB : Hid (Below w.heap.size w (wr.drewN nq)) := below_drewN HR.out _
        go_wp2_with fail
        go_ret2
        exact ⟨rfl, HB.out⟩
end Go.Proofs.YtpidafpaffpnaaaGreatDoor
namespace Go.Proofs.YtpidafpaffpnaaaGreatDoor
open Go.RowKit

/-- What Load leaves. -/
def Ld12 (B : Nat) (w : World) (q : Nat) (v : Value) (room : Int) (es : List (Tq.En × Value)) (p : ByteArray) (n : Kq.Kn) (e : Ending) (w' : World) : Prop :=
  e = .returned (.int .i64 (Tq.load ⟨room, es.map (·.1)⟩ p n).1) ∧ ∃ v' es', Re12 B w' q room v' es' ∧ es'.map (·.1) = (Tq.load ⟨room, es.map (·.1)⟩ p n).2.l ∧ Moved w w' (Fo11 v q) (Fo11 v' q) ∧ ∀ x ∈ es', x ∈ es ∨ ∀ k, x.2.ownBlock = some k → w.heap.size ≤ k
theorem Ld12.not {B q : Nat} {w w' : World} {v : Value} {room z : Int} {es : List (Tq.En × Value)} {p : ByteArray} {n : Kq.Kn} (h : Re12 B w q room v es) (hb : Below w.heap.size w w') (hz : Tq.load ⟨room, es.map (·.1)⟩ p n = (z, ⟨room, es.map (·.1)⟩)) : Ld12 B w q v room es p n (.returned (.int .i64 z)) w' := by
  refine ⟨by rw [hz], v, es, h.later hb, by rw [hz], Moved.of_below _ hb, fun x hx => Or.inl hx⟩

set_option maxRecDepth 20000 in
set_option maxHeartbeats 8000000 in
theorem refLoad_any12 (B q : Nat) (v : Value) (room : Int) (es : List (Tq.En × Value)) (p : ByteArray) (n : Kq.Kn) (na : Option Addr) (nL nc : Nat) (w : World) (h : Re12 B w q room v es) (hN : es.length ≤ 900) (hr : Kq.Rises (Tq.keys (es.map (·.1)))) (hn : Nm w (.slice na nL nc) n.names) (hnl : n.names.length ≤ 1000) (hns : ∀ s ∈ n.names, s.size ≤ maxLen) (hp : p.size ≤ maxLen) :
    Calls Tryz.prog 19 #[dptr q, .string p, kv n (.slice na nL nc)] w (Ld12 B w q v room es p n) := by
  have HH : Hid (Re12 B w q room v es ∧ es.length ≤ 900 ∧ Kq.Rises (Tq.keys (es.map (·.1))) ∧ Nm w (.slice na nL nc) n.names ∧ n.names.length ≤ 1000 ∧ (∀ s ∈ n.names, s.size ≤ maxLen) ∧ p.size ≤ maxLen) := ⟨h, hN, hr, hn, hnl, hns, hp⟩
  obtain ⟨av, cv, rfl, _, _⟩ := row_form h.row
  obtain ⟨N, hNe⟩ : ∃ N, N = es.length := ⟨_, rfl⟩
  rw [← hNe] at HH ⊢
  have HNE : Hid (N = es.length) := hNe
  obtain ⟨hnL, HSS⟩ : nL = n.names.length ∧ Hid (∀ (j : Nat) s, n.names[j]? = some s → ∃ g o, na = some ⟨g, o, none⟩ ∧ w.cell? ⟨g, o + j, none⟩ = some (.string s)) := by
    obtain ⟨a1, k1, c1, e, h1, h2⟩ := hn.ss
    simp only [Value.slice.injEq] at e
    obtain ⟨rfl, rfl, rfl⟩ := e
    exact ⟨h1, h2⟩
  have HNL : Hid (nL = n.names.length) := hnL
  have hL1 : nL ≤ 1000 := by omega
  clear h hN hr hn hns hp hNe hnL hnl
  unfold dptr kv
  go_enter Tryz.func19, Tryz.ntmps19
  obtain ⟨qn, hqn⟩ : ∃ z, z = w.heap.size := ⟨_, rfl⟩
  have H1 : Hid (Below w.heap.size w (w.alloc (.cells #[.int .i64 n.made, .int .i64 n.changed, .int .i64 n.ver, .int .i64 n.kids, .int .i64 n.owner, .int .i64 n.len, .int .i64 n.cnt, .string n.data, .int .i64 n.next, .slice na nL nc] 50)) ∧ Cb (w.alloc (.cells #[.int .i64 n.made, .int .i64 n.changed, .int .i64 n.ver, .int .i64 n.kids, .int .i64 n.owner, .int .i64 n.len, .int .i64 n.cnt, .string n.data, .int .i64 n.next, .slice na nL nc] 50)) qn (k10 n (.slice na nL nc)) 50) := ⟨(Below.refl _ w).alloc (Nat.le_refl _) _, by rw [hqn]; exact Cb.made w (k10 n (.slice na nL nc)) _⟩
  go_wp2_with fail
  rw [← hqn]
  have HQN : Hid (qn = w.heap.size) := hqn
  clear hqn
  generalize w.alloc (.cells #[.int .i64 n.made, .int .i64 n.changed, .int .i64 n.ver, .int .i64 n.kids, .int .i64 n.owner, .int .i64 n.len, .int .i64 n.cnt, .string n.data, .int .i64 n.next, .slice na nL nc] 50) = w1 at *
  refine (Pa.refGood_any p w1 HH.out.2.2.2.2.2.2).mono ?_
  rintro e w2 ⟨rfl, hb⟩
  have H2 : Hid (Below w.heap.size w w2 ∧ Cb w2 qn (k10 n (.slice na nL nc)) 50) := ⟨H1.out.1.trans (hb.mono H1.out.1.size), H1.out.2.below hb⟩
  clear hb H1
  cases hgd : Pl.goodB p.data.toList with
  | false =>
    have HZ : Hid (Tq.load ⟨room, es.map (·.1)⟩ p n = (1, ⟨room, es.map (·.1)⟩)) := by
      have e1 : Tq.layB p n = false := by unfold Tq.layB; rw [hgd]; rfl
      unfold Tq.load
      rw [if_pos e1]
      exact rfl
    clear hgd
    go_wp2
    go_ret
    exact Ld12.not HH.out.1 H2.out.1 HZ.out
  | true =>
    have HG : Hid (Pl.goodB p.data.toList = true) := hgd
    clear hgd
    have c9 : w2.cell? ⟨qn, 9, none⟩ = some (.slice na nL nc) := H2.out.2.cell 9
    go_wp2_with fail
    clear c9
    refine (rising_any (.slice na nL nc) n.names w2 (HH.out.2.2.2.1.ss.below H2.out.1) (by have := HH.out.2.2.2.2.1; omega)).mono ?_
    rintro e w3 ⟨t3, rfl, ht3, hb⟩
    have H3 : Hid (Below w.heap.size w w3 ∧ Cb w3 qn (k10 n (.slice na nL nc)) 50) := ⟨H2.out.1.trans (hb.mono H2.out.1.size), H2.out.2.below hb⟩
    have HT : Hid (t3 = true ↔ Kq.Rises n.names) := ht3
    clear hb H2 ht3
    cases t3 with
    | false =>
      have HZ : Hid (Tq.load ⟨room, es.map (·.1)⟩ p n = (1, ⟨room, es.map (·.1)⟩)) := by
        have e0 : Tq.risesB n.names = false := by
          cases hh : Tq.risesB n.names with
          | false => rfl
          | true => exact absurd (HT.out.2 ((Tq.rises_iff _).1 hh)) (by simp)
        have e1 : Tq.layB p n = false := by unfold Tq.layB; rw [e0]; simp
        unfold Tq.load
        rw [if_pos e1]
        exact rfl
      clear HT
      go_wp2
      go_ret
      exact Ld12.not HH.out.1 H3.out.1 HZ.out
    | true =>
      have HRI : Hid (Kq.Rises n.names) := HT.out.1 rfl
      clear HT
      have c9 : w3.cell? ⟨qn, 9, none⟩ = some (.slice na nL nc) := H3.out.2.cell 9
      by_cases h5 : (500 : Int) < (nL : Int)
      · have HZ : Hid (Tq.load ⟨room, es.map (·.1)⟩ p n = (1, ⟨room, es.map (·.1)⟩)) := by
          have e0 : ¬ n.names.length ≤ 500 := by have := HNL.out; omega
          have e1 : Tq.layB p n = false := by unfold Tq.layB; simp [e0]
          unfold Tq.load
          rw [if_pos e1]
          exact rfl
        go_wp2
        go_ret
        exact Ld12.not HH.out.1 H3.out.1 HZ.out
      · have H500 : Hid (n.names.length ≤ 500) := by
          have := HNL.out
          have e9 : n.names.length ≤ 500 := by omega
          exact e9
        go_wp2
        clear c9
        go_loopw [7] (fun i wr => ∃ k : Nat, k ≤ nL ∧ i = .int .i64 (k : Int) ∧ (∀ s ∈ n.names.take k, Pl.nameB s.data.toList = true) ∧ wr = w3) (fun i _ => nL + 1 - (intOf i).toNat)
        case atStart => exact ⟨0, Nat.zero_le _, rfl, fun s hs => by simp at hs, rfl⟩
        case round =>
          obtain ⟨k, hk, rfl, hall, rfl⟩ := hrel
          have HA : Hid (∀ s ∈ n.names.take k, Pl.nameB s.data.toList = true) := hall
          clear hall
          have c9 : wr.cell? ⟨qn, 9, none⟩ = some (.slice na nL nc) := H3.out.2.cell 9
          have i1 : (0 : Int) ≤ (k : Int) := by omega
          by_cases hlt : k < nL
          · have hlt' : (k : Int) < (nL : Int) := by omega
            have hwk : IntKind.wrap .i64 ((k : Int) + 1) = (k : Int) + 1 := by rw [IntKind.wrap_i64]; omega
            obtain ⟨s, hs⟩ : ∃ s, n.names[k]? = some s := ⟨_, List.getElem?_eq_getElem (by have := HNL.out; omega)⟩
            obtain ⟨g, o, hav, lx⟩ := HSS.out k s hs
            subst hav
            have lx' : wr.cell? ⟨g, o + k, none⟩ = some (.string s) := Below.kept H3.out.1 lx
            have HSK : Hid (n.names[k]? = some s) := hs
            clear lx hs
            go_wp2_with fail
            refine (Pa.isName_any s wr (HH.out.2.2.2.2.2.1 s (List.mem_of_getElem? HSK.out))).mono ?_
            rintro e w4 ⟨rfl, hw4⟩
            rw [hw4]
            clear hw4 w4 c9 lx'
            cases hnm : Pl.nameB s.data.toList with
            | false =>
              have HZ : Hid (Tq.load ⟨room, es.map (·.1)⟩ p n = (1, ⟨room, es.map (·.1)⟩)) := by
                have e0 : (n.names.all fun s => Pl.nameB s.data.toList) = false := by
                  rw [List.all_eq_false]
                  exact ⟨s, List.mem_of_getElem? HSK.out, by rw [hnm]; simp⟩
                have e1 : Tq.layB p n = false := by unfold Tq.layB; rw [e0]; simp
                unfold Tq.load
                rw [if_pos e1]
                exact rfl
              clear hnm
              go_wp2
              go_ret
              exact Ld12.not HH.out.1 H3.out.1 HZ.out
            | true =>
              have HT2 : Hid (Pl.nameB s.data.toList = true) := hnm
              clear hnm
              go_wp2
              go_roundw
              case rel =>
                refine ⟨k + 1, by omega, by go_num, fun x hx => ?_, trivial⟩
                rw [List.take_add_one, HSK.out] at hx
                rcases List.mem_append.1 hx with hx | hx
                · exact HA.out x hx
                · simp at hx
                  rw [hx]
                  exact HT2.out
              case measure => simp [intOf]; omega
          · have hlt' : ¬ (k : Int) < (nL : Int) := by omega
            have HLY : Hid (Tq.layB p n = true) := by
              have e0 : (n.names.all fun s => Pl.nameB s.data.toList) = true := by
                rw [List.all_eq_true]
                intro x hx
                exact HA.out x (by rw [List.take_of_length_le (by have := HNL.out; omega)]; exact hx)
              have e9 : Tq.layB p n = true := by
                unfold Tq.layB
                rw [HG.out, (Tq.rises_iff _).2 HRI.out, e0]
                simp [H500.out]
              exact e9
            clear HA
            go_wp2_with fail
            clear c9
            refine (refAt_any12 q room (es.map (·.1)) p wr (HH.out.1.later H3.out.1).rt (by rw [List.length_map]; have := HH.out.2.1; have := HNE.out; omega) HH.out.2.2.1).mono ?_
            rintro e w4 ⟨rfl, hb⟩
            have H4 : Hid (Below w.heap.size w w4 ∧ Cb w4 qn (k10 n (.slice na nL nc)) 50) := ⟨H3.out.1.trans (hb.mono H3.out.1.size), H3.out.2.below hb⟩
            clear hb H3
            cases hh : Kq.has (Tq.keys (es.map (·.1))) p with
            | true =>
              have HZ : Hid (Tq.load ⟨room, es.map (·.1)⟩ p n = (5, ⟨room, es.map (·.1)⟩)) := by
                obtain ⟨m, _, hm⟩ := Tq.at_there HH.out.2.2.1 hh
                unfold Tq.load
                rw [if_neg (by rw [HLY.out]; simp), hm]
                exact rfl
              clear hh
              generalize (Kq.low (Tq.keys (es.map (·.1))) p).length = k2
              go_wp2
              go_ret
              exact Ld12.not HH.out.1 H4.out.1 HZ.out
            | false =>
              have HF : Hid (Tq.find (es.map (·.1)) p = none) := Tq.at_not hh
              clear hh
              obtain ⟨k2, hk2⟩ : ∃ z, z = (Kq.low (Tq.keys (es.map (·.1))) p).length := ⟨_, rfl⟩
              rw [← hk2]
              have HK2 : Hid (k2 = (Kq.low (Tq.keys (es.map (·.1))) p).length) := hk2
              clear hk2
              have x0 : w4.cell? ⟨q, 0, none⟩ = some (.int .i64 room) := Below.kept H4.out.1 ((HH.out.1.blk.cell 0).trans rfl)
              have x1 : w4.cell? ⟨q, 1, none⟩ = some (.slice av N cv) := Below.kept H4.out.1 ((HH.out.1.blk.cell 1).trans rfl)
              by_cases hfull : room ≤ (N : Int)
              · have HZ : Hid (Tq.load ⟨room, es.map (·.1)⟩ p n = (9, ⟨room, es.map (·.1)⟩)) := by
                  unfold Tq.load
                  rw [if_neg (by rw [HLY.out]; simp), HF.out]
                  simp only []
                  rw [if_pos (by rw [List.length_map]; have := HNE.out; omega)]
                  exact rfl
                go_wp2_with fail
                go_quiet (fail)
                have HB5 : Hid (Below w.heap.size w (w4.drewN nq)) := below_drewN H4.out.1 _
                go_wp2
                go_ret
                exact Ld12.not HH.out.1 HB5.out HZ.out
              · have HZ : Hid (Tq.load ⟨room, es.map (·.1)⟩ p n = (0, ⟨room, Tq.ins (es.map (·.1)) p (Tq.laid n)⟩)) := by
                  unfold Tq.load
                  rw [if_neg (by rw [HLY.out]; simp), HF.out]
                  simp only []
                  rw [if_neg (by rw [List.length_map]; have := HNE.out; omega)]
                  exact rfl
                go_wp2_with fail
                go_quiet (fail)
                have H5 : Hid (Below w.heap.size w (w4.drewN nq) ∧ Cb (w4.drewN nq) qn (k10 n (.slice na nL nc)) 50) := ⟨below_drewN H4.out.1 _, H4.out.2.below (below_drewN (Below.refl _ _) _)⟩
                clear x0 x1 H4
                generalize w4.drewN nq = w5 at *
                have c9 : (w5.alloc (.cells #[] 9)).cell? ⟨qn, 9, none⟩ = some (.slice na nL nc) := (H5.out.2.below ((Below.refl _ w5).alloc (Nat.le_refl _) _)).cell 9
                go_wp2_with (at_builtin; refine append_strs rfl _ _ rfl w5.heap.size (.slice (some ⟨w5.heap.size, 0, none⟩) 0 0) (.slice na nL nc) [] n.names (w5.alloc (.cells #[] 9)) rfl rfl (World.ownsRow_made w5 #[] 0 (Nat.le_refl _) (by decide) rfl) (by simp) (Nm.src (HH.out.2.2.2.1.below (H5.out.1.alloc H5.out.1.size _))) (by have := H500.out; simp only [List.length_nil]; omega) ?_)
                intro v6 w6 ho hb
                obtain ⟨a6, c6, hv6, hrest⟩ := row_form ho
                rw [← HNL.out] at hv6
                subst hv6
                have hb56 : Below w5.heap.size w5 w6 := ((Below.refl _ w5).alloc (Nat.le_refl _) _).trans (hb.mono (Nat.le_refl _))
                have H6 : Hid (Below w.heap.size w w6 ∧ Cb w6 qn (k10 n (.slice na nL nc)) 50 ∧ w6.ownsRow w5.heap.size 9 1 (.slice a6 nL c6) n.names.length (sc n.names) ∧ w.heap.size < w5.heap.size) := ⟨H5.out.1.trans (hb56.mono H5.out.1.size), H5.out.2.below hb56, ho, by rw [← HQN.out]; exact H5.out.2.lt⟩
                clear ho hb hb56 hrest c9 H5
                have c9 : w6.cell? ⟨qn, 9, none⟩ = some (.slice na nL nc) := H6.out.2.1.cell 9
                have f9 := H6.out.2.1.free 9
                have H7 : Hid (Below w.heap.size w (w6.setCell ⟨qn, 9, none⟩ (.slice a6 nL c6)) ∧ Cb (w6.setCell ⟨qn, 9, none⟩ (.slice a6 nL c6)) qn (k10 n (.slice a6 nL c6)) 50 ∧ (w6.setCell ⟨qn, 9, none⟩ (.slice a6 nL c6)).ownsRow w5.heap.size 9 1 (.slice a6 nL c6) n.names.length (sc n.names) ∧ w.heap.size < w5.heap.size) := by
                  have hq := HQN.out
                  refine ⟨H6.out.1.grown (grownBy_setCell w6 ⟨qn, 9, none⟩ _) H6.out.1.size (fun k hk => by simp at hk; omega), H6.out.2.1.set 9 _, row_stays H6.out.2.2.1 (fun k hk => RowKit.Below.heap_setCell _ _ _ _ (fun e => ?_)), H6.out.2.2.2⟩
                  have h1 := (H6.out.2.2.1.lt k hk).1
                  have h2 := H6.out.2.2.2
                  have h3 : k = qn := e
                  omega
                go_upto_region 14 with fail
                clear c9 f9 H6
                generalize w6.setCell ⟨qn, 9, none⟩ (.slice a6 nL c6) = w7 at *
                have H8 : Hid (Below w.heap.size w ((w7.setCell ⟨qn, 5, none⟩ (.int .i64 (n.data.size : Int))).setCell ⟨qn, 6, none⟩ (.int .i64 (nL : Int))) ∧ Nmo ((w7.setCell ⟨qn, 5, none⟩ (.int .i64 (n.data.size : Int))).setCell ⟨qn, 6, none⟩ (.int .i64 (nL : Int))) (Fo11 (.slice av N cv) q) (.slice a6 nL c6) n.names) := by
                  have hq := HQN.out
                  have hb := (H7.out.1.grown (grownBy_setCell w7 ⟨qn, 5, none⟩ (.int .i64 (n.data.size : Int))) H7.out.1.size (fun k hk => by simp at hk; omega))
                  have hb2 := hb.grown (grownBy_setCell (w7.setCell ⟨qn, 5, none⟩ (.int .i64 (n.data.size : Int))) ⟨qn, 6, none⟩ (.int .i64 (nL : Int))) hb.size (fun k hk => by simp at hk; omega)
                  have hne : ∀ k, Value.ownBlock (.slice a6 nL c6) = some k → k ≠ qn ∧ w.heap.size ≤ k := fun k hk => by
                    have h1 := (H7.out.2.2.1.lt k hk).1
                    have h2 := H7.out.2.2.2
                    exact ⟨by omega, by omega⟩
                  have hrow := row_stays (row_stays H7.out.2.2.1 (fun k hk => RowKit.Below.heap_setCell w7 ⟨qn, 5, none⟩ (.int .i64 (n.data.size : Int)) k (hne k hk).1)) (fun k hk => RowKit.Below.heap_setCell (w7.setCell ⟨qn, 5, none⟩ (.int .i64 (n.data.size : Int))) ⟨qn, 6, none⟩ (.int .i64 (nL : Int)) k (hne k hk).1)
                  refine ⟨hb2, Nm.of_row hrow, fun _ k hk hF => ?_⟩
                  have h1 := (hne k hk).2
                  have h2 := (HH.out.1.lt hF).2
                  omega
                have HNEW : Hid (∀ k, Value.ownBlock (.slice a6 nL c6) = some k → w.heap.size ≤ k) := fun k hk => by
                  have h1 := (H7.out.2.2.1.lt k hk).1
                  have h2 := H7.out.2.2.2
                  omega
                obtain ⟨c0, c1, c2, c3, c4, c5, c6', c7, c8, c9⟩ := ten_cells H7.out.2.1
                have f5 := H7.out.2.1.free 5
                have f6 := H7.out.2.1.free 6
                go_wp2_with fail
                clear c0 c1 c2 c3 c4 c5 c6' c7 c8 c9 f5 f6 H7
                generalize (w7.setCell ⟨qn, 5, none⟩ (.int .i64 (n.data.size : Int))).setCell ⟨qn, 6, none⟩ (.int .i64 (nL : Int)) = w8 at *
                have HL : Hid (Calls Tryz.prog 69 #[dptr q, .agg #[.string p, .int .i64 n.made, .int .i64 n.changed, .int .i64 n.ver, .int .i64 n.kids, .int .i64 n.owner, .int .i64 (n.data.size : Int), .int .i64 (nL : Int), .string n.data, .int .i64 n.next, .slice a6 nL c6]] w8 fun e w' => e = .returned (.tuple #[]) ∧ ∃ v', Re12 B w' q room v' (es.take k2 ++ [(((p, Tq.laid n), Value.slice a6 nL c6) : Tq.En × Value)] ++ es.drop k2) ∧ Moved w8 w' (Fo11 (.slice av N cv) q) (Fo11 v' q)) := by
                  have e1 := refLay_any12 B q k2 (.slice av N cv) room es p (Tq.laid n) a6 nL c6 w8 (HH.out.1.later H8.out.1) (by have := HH.out.2.1; have := HNE.out; omega) HH.out.2.2.1 HK2.out H8.out.2 HH.out.2.2.2.2.1
                  have e2 : (Tq.laid n).cnt = (nL : Int) := by rw [HNL.out]; rfl
                  rw [e2] at e1
                  exact e1
                unfold dptr at HL
                refine HL.out.mono ?_
                clear HL
                rintro e w9 ⟨rfl, v', hre, hmv⟩
                have H9 : Hid (Re12 B w9 q room v' (es.take k2 ++ [(((p, Tq.laid n), Value.slice a6 nL c6) : Tq.En × Value)] ++ es.drop k2) ∧ Moved w w9 (Fo11 (.slice av N cv) q) (Fo11 v' q)) := ⟨hre, by
                  have hb := H8.out.1
                  refine ⟨hmv.os.trans hb.os, hmv.tape.trans hb.tape, hmv.output.trans hb.output, Nat.le_trans hb.size hmv.size, fun k hk hF => (hmv.block k (Nat.lt_of_lt_of_le hk hb.size) hF).trans (hb.block k hk), fun k hk => ?_⟩
                  rcases hmv.sub k hk with h1 | h1
                  · exact Or.inl h1
                  · exact Or.inr (Nat.le_trans hb.size h1)⟩
                clear hre hmv H8
                go_wp2
                go_ret
                refine ⟨by rw [HZ.out]; rfl, v', _, H9.out.1, ?_, H9.out.2, fun x hx => ?_⟩
                · rw [HZ.out]
                  exact Tq.ins_map12 es p (Tq.laid n) _ k2 HK2.out
                · rcases List.mem_append.1 hx with hx | hx
                  · rcases List.mem_append.1 hx with hx | hx
                    · exact Or.inl (List.mem_of_mem_take hx)
                    · simp only [List.mem_singleton] at hx
                      rw [hx]
                      exact Or.inr HNEW.out
                  · exact Or.inl (List.mem_of_mem_drop hx)
end Go.Proofs.YtpidafpaffpnaaaGreatDoor
