/- Texts that lie apart from a tree; what the statements' own has answers; the reference's Parent and Name in a tree's words. A node in a box of its own, beside a tree. -/
import Derived.Test.YtfcbdjjbchcpjaaGreatDoorActs11
import Derived.Test.YtfcbdjjbchcpjaaGreatDoorPln
import Derived.Test.YtfcbdjjbchcpjaaGreatDoorLibQ
namespace Go.Proofs.YtfcbdjjbchcpjaaGreatDoor
open Go.RowKit

/-- Texts that lie apart from a tree's blocks. -/
structure Sm (w : World) (F : Nat → Prop) (v : Value) (l : List ByteArray) : Prop where
  ss : Ss w v l
  off : l ≠ [] → Off11 F v
theorem Sm.moved {w w' : World} {F F' : Nat → Prop} {v : Value} {l : List ByteArray} (h : Sm w F v l) (hm : Moved w w' F F') : Sm w' F' v l := by
  obtain ⟨av, k, c, rfl, hk, hc⟩ := h.ss
  have hblk : ∀ (j : Nat) s, l[j]? = some s → ∃ g o, av = some ⟨g, o, none⟩ ∧ w.cell? ⟨g, o + j, none⟩ = some (.string s) ∧ g < w.heap.size ∧ ¬ F g := fun j s hs => by
    obtain ⟨g, o, e, h1⟩ := hc j s hs
    have hne : l ≠ [] := fun e2 => by rw [e2] at hs; simp at hs
    exact ⟨g, o, e, h1, World.block_lt_of_cell? w _ h1, h.off hne g (by rw [e]; rfl)⟩
  refine ⟨⟨av, k, c, rfl, hk, fun j s hs => ?_⟩, fun hne b hb => ?_⟩
  · obtain ⟨g, o, e, h1, h2, h3⟩ := hblk j s hs
    exact ⟨g, o, e, (World.cell?_of_block (hm.block g h2 h3)).trans h1⟩
  · cases l with
    | nil => exact absurd rfl hne
    | cons s l =>
      obtain ⟨g, o, e, _, h2, h3⟩ := hblk 0 s rfl
      rw [e] at hb
      simp only [Value.ownBlock, Option.some.injEq] at hb
      rw [← hb]
      intro hF
      rcases hm.sub g hF with h4 | h4
      · exact h3 h4
      · omega
theorem Sm.later {w w' : World} {F : Nat → Prop} {v : Value} {l : List ByteArray} (h : Sm w F v l) (hb : Below w.heap.size w w') : Sm w' F v l := ⟨h.ss.below hb, h.off⟩

set_option maxRecDepth 20000 in
set_option maxHeartbeats 1000000 in
theorem has_any11 (u : Value) (ss : List ByteArray) (s : ByteArray) (w : World) (h : Ss w u ss) (hN : ss.length ≤ 100000) :
    Calls Tryz.prog 37 #[u, .string s] w (BoolP (s ∈ ss) w) := by
  obtain ⟨av, N, c, rfl, hk, hc⟩ := h
  have HC : Hid ((∀ (j : Nat) s, ss[j]? = some s → ∃ g o, av = some ⟨g, o, none⟩ ∧ w.cell? ⟨g, o + j, none⟩ = some (.string s)) ∧ N = ss.length) := ⟨hc, hk⟩
  have hN1 : N ≤ 100000 := by omega
  clear hc hk hN
  go_enter Tryz.func37, Tryz.ntmps37
  go_wp2
  go_loopw [5] (fun i wr => ∃ k : Nat, k ≤ N ∧ i = .int .i64 (k : Int) ∧ (∀ x ∈ ss.take k, x ≠ s) ∧ w = wr) (fun i _ => N - (intOf i).toNat)
  case atStart => exact ⟨0, Nat.zero_le _, rfl, fun x hx => by simp at hx, rfl⟩
  case round =>
    obtain ⟨k, hk, rfl, hsm, rfl⟩ := hrel
    have HSM : Hid (∀ x ∈ ss.take k, x ≠ s) := hsm
    clear hsm
    by_cases hlt : k < N
    · have hlt' : (k : Int) < (N : Int) := by omega
      have hk0 : (0 : Int) ≤ (k : Int) := by omega
      have hwk : IntKind.wrap .i64 ((k : Int) + 1) = (k : Int) + 1 := by rw [IntKind.wrap_i64]; omega
      obtain ⟨x, hx⟩ : ∃ x, ss[k]? = some x := ⟨_, List.getElem?_eq_getElem (by have := HC.out.2; omega)⟩
      have HX : Hid (ss.take (k + 1) = ss.take k ++ [x] ∧ x ∈ ss) := ⟨by rw [List.take_add_one, hx]; rfl, List.mem_of_getElem? hx⟩
      obtain ⟨g, o, hav, lx⟩ := HC.out.1 k x hx
      subst hav
      clear hx
      cases he : (x.toList == s.toList) with
      | true =>
        have HY : Hid (s ∈ ss) := by
          have e : s ∈ ss := by rw [← bytes_eq he]; exact HX.out.2
          exact e
        go_wp2
        go_ret
        exact ⟨true, rfl, ⟨fun _ => HY.out, fun _ => rfl⟩, Below.refl _ _⟩
      | false =>
        have HN : Hid (∀ y ∈ ss.take (k + 1), y ≠ s) := fun y hy => by
          rw [HX.out.1] at hy
          rcases List.mem_append.1 hy with hy | hy
          · exact HSM.out y hy
          · simp at hy
            rw [hy]
            intro e
            rw [e] at he
            simp at he
        go_wp2
        go_roundw
        case rel => exact ⟨k + 1, by omega, by go_num, HN.out, by first | rfl | trivial⟩
        case measure => simp [intOf]; omega
    · have hlt' : ¬ (k : Int) < (N : Int) := by omega
      have HE : Hid (¬ s ∈ ss) := by
        have e : ¬ s ∈ ss := fun h => by
          refine HSM.out s ?_ rfl
          rw [List.take_of_length_le (by have := HC.out.2; omega)]
          exact h
        exact e
      go_wp2
      go_ret
      exact ⟨false, rfl, ⟨fun h => (by cases h), fun h => absurd h HE.out⟩, Below.refl _ _⟩

theorem tb_of {x : ByteArray} {l : List UInt8} (h : x.data.toList = l) : x = Tq.tb l := by rw [← h, Tq.tb_back]
theorem refUp11 (p : ByteArray) (w : World) (hg : Pl.goodB p.data.toList = true) :
    Calls Tryz.prog 36 #[.string p] w fun e w' => Below w.heap.size w w' ∧ (∀ u, Tq.up p = some u → e = .returned (.tuple #[.string u, .bool true])) ∧ (Tq.up p = none → e = .returned (.tuple #[.string ⟨#[]⟩, .bool false])) := by
  by_cases h2 : 2 ≤ (Pl.parts p.data.toList).length
  · refine (Pa.refParent_yes p w hg h2).mono ?_
    rintro e w' ⟨x, rfl, hx, hb⟩
    refine ⟨hb, fun u hu => ?_, fun hu => ?_⟩
    · unfold Tq.up at hu
      rw [if_pos h2] at hu
      rw [tb_of hx, ← Option.some.inj hu]
    · unfold Tq.up at hu
      rw [if_pos h2] at hu
      cases hu
  · have hp : p.size ≤ maxLen := by
      have h1 := (Pl.good_parts hg).2.2
      rw [Array.length_toList] at h1
      have h3 : p.size = p.data.size := rfl
      unfold maxLen
      omega
    refine (Pa.refParent_no p w hp (by omega)).mono ?_
    rintro e w' ⟨rfl, hb⟩
    refine ⟨hb, fun u hu => ?_, fun _ => rfl⟩
    unfold Tq.up at hu
    rw [if_neg h2] at hu
    cases hu
theorem refNm11 (p : ByteArray) (w : World) (hg : Pl.goodB p.data.toList = true) :
    Calls Tryz.prog 38 #[.string p] w fun e w' => e = .returned (.string (Tq.nm p)) ∧ Below w.heap.size w w' := by
  refine (Pa.refName_any p w hg).mono ?_
  rintro e w' ⟨x, rfl, hx, hb⟩
  rw [tb_of hx]
  exact ⟨rfl, hb⟩
end Go.Proofs.YtfcbdjjbchcpjaaGreatDoor
namespace Go.Proofs.YtfcbdjjbchcpjaaGreatDoor
open Go.RowKit

/-- What Ephemeral answers of a node in a box. -/
structure Eph11 : Prop where
  eph : ∀ (q : Nat) (n : Kq.Kn) (v : Value) (w : World), Cb w q (k10 n v) 38 →
    Calls Tryz.prog 35 #[dptr q] w fun e w' => e = .returned (.bool (decide (n.owner ≠ 0))) ∧ Below w.heap.size w w'
structure Bx11 (w : World) (F : Nat → Prop) (q : Nat) (n : Kq.Kn) (u : Value) : Prop where
  blk : Cb w q (k10 n u) 38
  off : ¬ F q
  nm : Sm w F u n.names
theorem Bx11.moved {w w' : World} {F F' : Nat → Prop} {q : Nat} {n : Kq.Kn} {u : Value} (h : Bx11 w F q n u) (hm : Moved w w' F F') : Bx11 w' F' q n u := by
  refine ⟨h.blk.keep (hm.block q h.blk.lt h.off), fun hF => ?_, h.nm.moved hm⟩
  rcases hm.sub q hF with h1 | h1
  · exact h.off h1
  · have := h.blk.lt
    omega
theorem Bx11.later {w w' : World} {F : Nat → Prop} {q : Nat} {n : Kq.Kn} {u : Value} (h : Bx11 w F q n u) (hb : Below w.heap.size w w') : Bx11 w' F q n u := ⟨h.blk.below hb, h.off, h.nm.later hb⟩
theorem Bx11.made {LT : Rep11} (S : Specs11 LT) {W w : World} {t : Tq.Tr} {F : Nat → Prop} {q : Nat} {n : Kq.Kn} {u : Value} (h : Mine11 LT W w q t F) (hu : Sm w F u n.names) : Bx11 (w.alloc (.cells (k10 n u).toArray 38)) F w.heap.size n u :=
  ⟨Cb.made w (k10 n u) 38, fun hF => Nat.lt_irrefl _ (S.lt h.ld hF), hu.later ((Below.refl _ w).alloc (Nat.le_refl _) _)⟩
theorem k10_arr (n : Kq.Kn) (u : Value) : (k10 n u).toArray = #[.int .i64 n.made, .int .i64 n.changed, .int .i64 n.ver, .int .i64 n.kids, .int .i64 n.owner, .int .i64 n.len, .int .i64 n.cnt, .string n.data, .int .i64 n.next, u] := rfl
/-- A tree, its paths in a row. -/
structure Sd11 (LT : Rep11) (W w : World) (q : Nat) (t : Tq.Tr) (F : Nat → Prop) (v : Value) : Prop where
  mine : Mine11 LT W w q t F
  ks : Sm w F v (Tq.keys t.l)
theorem Sd11.later {LT : Rep11} (S : Specs11 LT) {W w w' : World} {q : Nat} {t : Tq.Tr} {F : Nat → Prop} {v : Value} (h : Sd11 LT W w q t F v) (hb : Below w.heap.size w w') : Sd11 LT W w' q t F v := ⟨h.mine.later S hb, h.ks.later hb⟩
theorem Sd11.node {LT : Rep11} (S : Specs11 LT) {W w : World} {q : Nat} {t : Tq.Tr} {F : Nat → Prop} {v : Value} (h : Sd11 LT W w q t F v) (p : ByteArray) {n : Kq.Kn} (hn : Tq.find t.l p = some n) :
    Calls Tryz.prog 34 #[dptr q, .string p] w fun e w' => ∃ F' a L c, e = .returned (.tuple #[kv n (.slice a L c), .bool true]) ∧ Sd11 LT W w' q t F' v ∧ Sm w' F' (.slice a L c) n.names ∧ L = n.names.length ∧ Moved w w' F F' := by
  have hp : p.size ≤ maxLen := by
    have h1 := (Pl.good_parts (h.mine.fine.nodes _ (Tq.find_some hn)).1).2.2
    rw [Array.length_toList] at h1
    have h3 : p.size = p.data.size := rfl
    unfold maxLen
    simp only [] at h1
    omega
  refine (h.mine.node S p hp).mono ?_
  rintro e w' ⟨F', hN, hM, hmv⟩
  obtain ⟨u, rfl, hsq, hof⟩ := hN.1 n hn
  have hss := hsq.ss
  obtain ⟨a, L, c, rfl, hL, hc⟩ := hss
  exact ⟨F', a, L, c, rfl, ⟨hM, h.ks.moved hmv⟩, ⟨⟨a, L, c, rfl, hL, hc⟩, hof⟩, hL, hmv⟩
theorem Sm.cell {w : World} {F : Nat → Prop} {a : Option Addr} {N c : Nat} {l : List ByteArray} (h : Sm w F (.slice a N c) l) {j : Nat} {s : ByteArray} (hs : l[j]? = some s) : ∃ g o, a = some ⟨g, o, none⟩ ∧ w.cell? ⟨g, o + j, none⟩ = some (.string s) := by
  obtain ⟨av, N', c', e, _, hc⟩ := h.ss
  cases e
  exact hc j s hs
theorem Tq.key_at {t : Tq.Tr} (hf : Fine11 t) {j : Nat} (hj : j < t.l.length) : ∃ p n, (Tq.keys t.l)[j]? = some p ∧ Tq.find t.l p = some n ∧ Pl.goodB p.data.toList = true ∧ Node11 n := by
  obtain ⟨e, he⟩ : ∃ e, t.l[j]? = some e := ⟨_, List.getElem?_eq_getElem hj⟩
  have hm := List.mem_of_getElem? he
  refine ⟨e.1, e.2, ?_, Tq.find_of hf.rise hm, hf.nodes e hm⟩
  unfold Tq.keys
  rw [List.getElem?_map, he]
  rfl
/-- Behind a node that was laid into a box that nobody looks at. -/
theorem Sd11.stored {LT : Rep11} (S : Specs11 LT) {W w0 wb w' : World} {q qn qb : Nat} {t : Tq.Tr} {F F' : Nat → Prop} {v u : Value} {n : Kq.Kn} (h0 : Sd11 LT W w0 q t F v) (hx : Bx11 w0 F qn n u) (hm : Moved w0 wb F F') (hb : Mine11 LT W wb q t F') (hq : w0.heap.size ≤ qb) (hqF : ¬ F' qb) (hg : wb.grownBy w' (some qb)) : Sd11 LT W w' q t F' v ∧ Bx11 w' F' qn n u ∧ Moved w0 w' F F' := by
  have hs := hm.size
  have hmv : Moved w0 w' F F' := ⟨hg.os.trans hm.os, hg.tape.trans hm.tape, hg.output.trans hm.output, Nat.le_trans hm.size hg.size, fun k hk hF => (hg.block k (by omega) (fun e => by have := Option.some.inj e; omega)).trans (hm.block k hk hF), hm.sub⟩
  refine ⟨⟨h0.mine.step (S.keep hb.ld fun k hk => hg.block k (S.lt hb.ld hk) (fun e => hqF (by rw [← Option.some.inj e]; exact hk))) hb.fine hmv, h0.ks.moved hmv⟩, hx.moved hmv, hmv⟩
theorem grown_setRow (w : World) (g : Nat) (cs : Array Value) : w.grownBy (w.setRow g cs) (some g) := ⟨rfl, rfl, rfl, by simp [World.setRow], fun k hk hne => setRow_other w g k cs (fun e => hne (by rw [e]))⟩
theorem Tq.sub_app (p s : ByteArray) : p ++ ⟨#[47]⟩ ++ s = Tq.sub p s := by
  cases p with | mk p => cases s with | mk s =>
  unfold Tq.sub Tq.tb
  apply ByteArray.ext
  apply Array.ext'
  simp
theorem Tq.room_make (t : Tq.Tr) (u : Option ByteArray) (p d : ByteArray) (own z : Int) : (Tq.makeAt t u p own z d).2.room = t.room := by
  unfold Tq.makeAt
  split
  · rfl
  · split <;> rfl
theorem Tq.room_doo (t : Tq.Tr) (o : O) (s z : Int) : (Tq.doo t o s z).2.room = t.room := by
  unfold Tq.doo
  split
  · rfl
  · split
    · rfl
    · split
      · unfold Tq.create
        simp only []
        split
        · exact Tq.room_make _ _ _ _ _ _
        · split
          · rfl
          · split
            · rfl
            · split
              · split
                · rfl
                · exact Tq.room_make _ _ _ _ _ _
              · exact Tq.room_make _ _ _ _ _ _
      · split
        · rfl
        · unfold Tq.atNode
          split
          · rfl
          · split
            · split <;> rfl
            · split
              · rfl
              · split
                · rfl
                · split
                  · rfl
                  · split <;> rfl
end Go.Proofs.YtfcbdjjbchcpjaaGreatDoor
