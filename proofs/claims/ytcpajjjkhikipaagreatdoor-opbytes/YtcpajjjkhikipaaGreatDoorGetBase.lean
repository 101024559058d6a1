/- What a Get has under way, and its steps: for the program and the reference alike. -/
import Derived.Test.YtcpajjjkhikipaaGreatDoorPlainP
import Derived.Test.YtcpajjjkhikipaaGreatDoorPlainT
import Derived.Test.YtcpajjjkhikipaaGreatDoorBox
import Derived.Test.YtcpajjjkhikipaaGreatDoorSpecs5
namespace Go.Proofs.YtcpajjjkhikipaaGreatDoor
open Go.RowKit

/-- Five cells of an Op that a call owns, and may write. -/
structure OpV (w : World) (q : Nat) (o : O) : Prop where
  box : Box5 w q o
  free : ∀ i : Nat, w.frozen? ⟨q, i, none⟩ = false

theorem OpV.lt {w : World} {q : Nat} {o : O} (h : OpV w q o) : q < w.heap.size := World.block_lt_of_cell? w _ h.box.c0

theorem OpV.made (w : World) (o : O) (t : TypeId) : OpV (w.alloc (.cells #[.int .i64 o.kind, .string o.path, .string o.data, .int .i64 o.ver, .int .i64 o.flags] t)) w.heap.size o :=
  ⟨Box5.made w o t, fun i => by simp⟩

theorem OpV.grown {w w' : World} {q r : Nat} {o : O} (h : OpV w q o) (hg : w.grownBy w' (some r)) (hr : q ≠ r) : OpV w' q o := by
  have hb := hg.block q h.lt (by simpa using hr)
  exact ⟨⟨(World.cell?_of_block hb).trans h.box.c0, (World.cell?_of_block hb).trans h.box.c1, (World.cell?_of_block hb).trans h.box.c2, (World.cell?_of_block hb).trans h.box.c3, (World.cell?_of_block hb).trans h.box.c4⟩, fun i => (World.frozen?_of_block hb).trans (h.free i)⟩

theorem OpV.set1 {w : World} {q : Nat} {K V F : Int} {p d : ByteArray} (h : OpV w q ⟨K, p, d, V, F⟩) (x : ByteArray) : OpV (w.setCell ⟨q, 1, none⟩ (.string x)) q ⟨K, x, d, V, F⟩ := by
  refine ⟨⟨?_, ?_, ?_, ?_, ?_⟩, fun i => by simpa using h.free i⟩
  · rw [World.cell?_setCell_other _ _ _ _ (by simp)]; exact h.box.c0
  · exact World.cell?_setCell_same _ _ _ h.box.c1
  · rw [World.cell?_setCell_other _ _ _ _ (by simp)]; exact h.box.c2
  · rw [World.cell?_setCell_other _ _ _ _ (by simp)]; exact h.box.c3
  · rw [World.cell?_setCell_other _ _ _ _ (by simp)]; exact h.box.c4
theorem OpV.set2 {w : World} {q : Nat} {K V F : Int} {p d : ByteArray} (h : OpV w q ⟨K, p, d, V, F⟩) (x : ByteArray) : OpV (w.setCell ⟨q, 2, none⟩ (.string x)) q ⟨K, p, x, V, F⟩ := by
  refine ⟨⟨?_, ?_, ?_, ?_, ?_⟩, fun i => by simpa using h.free i⟩
  · rw [World.cell?_setCell_other _ _ _ _ (by simp)]; exact h.box.c0
  · rw [World.cell?_setCell_other _ _ _ _ (by simp)]; exact h.box.c1
  · exact World.cell?_setCell_same _ _ _ h.box.c2
  · rw [World.cell?_setCell_other _ _ _ _ (by simp)]; exact h.box.c3
  · rw [World.cell?_setCell_other _ _ _ _ (by simp)]; exact h.box.c4
theorem OpV.set3 {w : World} {q : Nat} {K V F : Int} {p d : ByteArray} (h : OpV w q ⟨K, p, d, V, F⟩) (x : Int) : OpV (w.setCell ⟨q, 3, none⟩ (.int .i64 x)) q ⟨K, p, d, x, F⟩ := by
  refine ⟨⟨?_, ?_, ?_, ?_, ?_⟩, fun i => by simpa using h.free i⟩
  · rw [World.cell?_setCell_other _ _ _ _ (by simp)]; exact h.box.c0
  · rw [World.cell?_setCell_other _ _ _ _ (by simp)]; exact h.box.c1
  · rw [World.cell?_setCell_other _ _ _ _ (by simp)]; exact h.box.c2
  · exact World.cell?_setCell_same _ _ _ h.box.c3
  · rw [World.cell?_setCell_other _ _ _ _ (by simp)]; exact h.box.c4
theorem OpV.set4 {w : World} {q : Nat} {K V F : Int} {p d : ByteArray} (h : OpV w q ⟨K, p, d, V, F⟩) (x : Int) : OpV (w.setCell ⟨q, 4, none⟩ (.int .i64 x)) q ⟨K, p, d, V, x⟩ := by
  refine ⟨⟨?_, ?_, ?_, ?_, ?_⟩, fun i => by simpa using h.free i⟩
  · rw [World.cell?_setCell_other _ _ _ _ (by simp)]; exact h.box.c0
  · rw [World.cell?_setCell_other _ _ _ _ (by simp)]; exact h.box.c1
  · rw [World.cell?_setCell_other _ _ _ _ (by simp)]; exact h.box.c2
  · rw [World.cell?_setCell_other _ _ _ _ (by simp)]; exact h.box.c3
  · exact World.cell?_setCell_same _ _ _ h.box.c4

/-- A request's three cells that a call owns, and may write. -/
structure ReqV (w : World) (q : Nat) (s n : Int) (u : Value) : Prop where
  box : Box3 w q s n u
  free : ∀ i : Nat, w.frozen? ⟨q, i, none⟩ = false

theorem ReqV.lt {w : World} {q : Nat} {s n : Int} {u : Value} (h : ReqV w q s n u) : q < w.heap.size := World.block_lt_of_cell? w _ h.box.c0
theorem ReqV.made (w : World) (s n : Int) (u : Value) (t : TypeId) : ReqV (w.alloc (.cells #[.int .i64 s, .int .i64 n, u] t)) w.heap.size s n u :=
  ⟨Box3.made w s n u t, fun i => by simp⟩
theorem ReqV.grown {w w' : World} {q r : Nat} {s n : Int} {u : Value} (h : ReqV w q s n u) (hg : w.grownBy w' (some r)) (hr : q ≠ r) : ReqV w' q s n u := by
  have hb := hg.block q h.lt (by simpa using hr)
  exact ⟨⟨(World.cell?_of_block hb).trans h.box.c0, (World.cell?_of_block hb).trans h.box.c1, (World.cell?_of_block hb).trans h.box.c2⟩, fun i => (World.frozen?_of_block hb).trans (h.free i)⟩
theorem ReqV.set2 {w : World} {q : Nat} {s n : Int} {u : Value} (h : ReqV w q s n u) (x : Value) : ReqV (w.setCell ⟨q, 2, none⟩ x) q s n x := by
  refine ⟨⟨?_, ?_, ?_⟩, fun i => by simpa using h.free i⟩
  · rw [World.cell?_setCell_other _ _ _ _ (by simp)]; exact h.box.c0
  · rw [World.cell?_setCell_other _ _ _ _ (by simp)]; exact h.box.c1
  · exact World.cell?_setCell_same _ _ _ h.box.c2

theorem rC_most (ys : List UInt8) (bad : Bool) : 0 ≤ (Pk.rC 16 ys bad).1 ∧ (Pk.rC 16 ys bad).1 ≤ 16 := by
  unfold Pk.rC
  split
  · exact ⟨by simp, by simp⟩
  · rename_i h
    exact ⟨by omega, by omega⟩

theorem own_lt {w : World} {v : Value} {b : List UInt8} (hb : Bs w v b) (h : 0 < b.length) (r : Nat) (e : v.ownBlock = some r) : r < w.heap.size := by
  obtain ⟨g, o, n, c, rfl, _, _, hc⟩ := hb.plain h
  have hlt := World.block_lt_of_cell? w _ (hc 0 b[0] (List.getElem?_eq_getElem h))
  simp only [Value.ownBlock, Option.some.injEq] at e
  simp only [] at hlt
  omega

theorem grown_any {w w' : World} {row : Option Nat} (h : w.grownBy w' row) (r : Nat) (hr : ∀ k, row = some k → k = r) : w.grownBy w' (some r) :=
  ⟨h.os, h.tape, h.output, h.size, fun k hk hne => h.block k hk (fun e => hne (by rw [hr k e.symm]))⟩

/-- 'append(l, o)': what the call owns grows by an Op; other blocks stay. -/
theorem append_op1 {ops : Array Oper} {rest : List Oper} {o : Oper} {a : Act} {Q : Exit → Act → World → Prop} (hgd : o.guard = none) (s x : Operand)
    (ho : o.op = .call { callee := .builtin .append, args := #[s, x], argTypes := #[29, 29] })
    (B : Nat) (v : Value) (ls : List O) (y : O) (w0 : World) (q : Nat) (hq : q = w0.heap.size) (hs : a.eval s = v) (hx : a.eval x = .slice (some ⟨q, 0, none⟩) 1 1) (hown : w0.ownsRow B 24 5 v ls.length (ls.flatMap oc)) (hB : B ≤ w0.heap.size) (hN : ls.length ≤ 1000)
    (h : ∀ v' w', w'.ownsRow B 24 5 v' (ls ++ [y]).length ((ls ++ [y]).flatMap oc) → (w0.alloc (.cells (oc y).toArray 24)).grownBy w' v.ownBlock → wpList Tryz.prog ops Q rest (a.put o.dst v') w') : wpList Tryz.prog ops Q (o :: rest) a (w0.alloc (.cells (oc y).toArray 24)) := by
  subst hq
  obtain ⟨i0, hi, hz0, hz1, hz2⟩ := info_parts infoOp
  refine wpList_append_own _ hgd s x 29 ho B 24 i0 (.agg #[.int .i64 0, .string ⟨#[]⟩, .string ⟨#[]⟩, .int .i64 0, .int .i64 0]) 5 56 Tryz.underlying29 hi hz0 hz1 hz2 rfl (by decide) v ls.length (ls.flatMap oc) hs (hown.alloc _) ⟨w0.heap.size, 0, none⟩ 1 1 (oc y) hx rfl ?_ (fun u hu => flat_one [y] u (by simpa using hu)) (by unfold maxLen; omega) (by omega) (by simp; omega) ?_
  · intro j u hu
    rw [Addr.add_lit, Nat.zero_add]
    exact cell?_alloc_at _ _ _ _ _ _ (by simpa using hu)
  · intro v' w' ho' hg _
    exact h v' w' (by rw [List.length_append, List.flatMap_append]; simpa using ho') hg

theorem own_block {w : World} {B : Nat} {v : Value} {os : List O} (h : w.ownsRow B 24 5 v os.length (os.flatMap oc)) (h0 : 0 < os.length) : ∃ g K p, v.ownBlock = some g ∧ w.cell? ⟨g, 0, none⟩ = some (.int .i64 K) ∧ w.cell? ⟨g, 1, none⟩ = some (.string p) := by
  rcases h.2 with ⟨rfl, h1⟩ | ⟨g, cap, cur, rfl, _⟩
  · omega
  · have e0 := h.cellAt 0 (by omega)
    have e1 := h.cellAt 1 (by omega)
    rw [flat_get] at e0 e1
    have h2 : os[0]? = some os[0] := List.getElem?_eq_getElem h0
    simp only [Nat.zero_div, Nat.zero_mod, h2, Option.bind_some] at e0
    have e3 : 1 / 5 = 0 := rfl
    rw [e3, h2] at e1
    exact ⟨g, os[0].kind, os[0].path, rfl, e0, e1⟩

theorem own_slice {w : World} {B e n : Nat} {t : TypeId} {v : Value} {us : List Value} (h : w.ownsRow B t e v n us) : ∃ a m c, v = .slice a m c := by
  rcases h.2 with ⟨rfl, _⟩ | ⟨g, cap, cur, rfl, _⟩
  · exact ⟨_, _, _, rfl⟩
  · exact ⟨_, _, _, rfl⟩

theorem rI_rng (ys : List UInt8) (bad : Bool) : Oq.Rng (Pk.rI ys bad).1 := by
  unfold Pk.rI
  split
  · rename_i h
    have h1 := Pk.val_lt (ys.take 8)
    have h2 : (ys.take 8).length = 8 := by rw [List.length_take]; omega
    rw [h2] at h1
    have h3 : (256 : Nat) ^ 8 = 18446744073709551616 := by decide
    simp only []
    unfold Pk.sgn Oq.Rng
    constructor <;> split <;> omega
  · exact ⟨by decide, by decide⟩

theorem rC_max (m : Int) (ys : List UInt8) (bad : Bool) (hm : 0 ≤ m) : (Pk.rC m ys bad).1 ≤ m := by
  unfold Pk.rC
  split
  · exact hm
  · rename_i h
    omega

theorem rT_max (m : Int) (ys : List UInt8) (bad : Bool) (hm : 0 ≤ m) : (((Pk.rT m ys bad).1.length : Nat) : Int) ≤ m := by
  have h := rC_max m ys bad hm
  unfold Pk.rT
  split
  · simp only [List.length_take]
    omega
  · simpa using hm

theorem ReqV.below {w w' : World} {q : Nat} {s n : Int} {u : Value} (h : ReqV w q s n u) (hb : Below w.heap.size w w') : ReqV w' q s n u :=
  ⟨h.box.below hb, fun i => (World.frozen?_of_block (hb.block q h.lt)).trans (h.free i)⟩

/-- What is left behind the loop. -/
structure FinS (w wr : World) (q0 qq : Nat) (v : Value) (b : List UInt8) (s n : Int) (u : Value) (os : List O) : Prop where
  req : Box3 wr qq s n u
  ans : ReqV wr q0 0 0 (.slice none 0 0)
  ol : Ol wr u os
  bs : Bs wr v b
  below : Below w.heap.size w wr
  h0 : w.heap.size ≤ q0
  q00 : qq ≠ q0
  u0 : u.ownBlock ≠ some q0

theorem FinS.later {w wr w' : World} {q0 qq : Nat} {v : Value} {b : List UInt8} {s n : Int} {u : Value} {os : List O} (h : FinS w wr q0 qq v b s n u os) (hb : Below wr.heap.size wr w') : FinS w w' q0 qq v b s n u os :=
  ⟨h.req.below hb, h.ans.below hb, h.ol.below hb, h.bs.below hb, h.below.trans (hb.mono h.below.size), h.h0, h.q00, h.u0⟩

theorem Ol.set {w : World} {v : Value} {os : List O} {q i : Nat} (x : Value) (h : Ol w v os) (hne : v.ownBlock ≠ some q) : Ol (w.setCell ⟨q, i, none⟩ x) v os := by
  obtain ⟨av, k, c, hv, hk, hc, hn, hs⟩ := h
  refine ⟨av, k, c, hv, hk, hc, hn, fun j o ho => ?_⟩
  obtain ⟨g, b, ha, hcell⟩ := hs j o ho
  refine ⟨g, b, ha, fun i' u hu => ?_⟩
  rw [World.cell?_setCell_other _ _ _ _ (fun e => ?_)]
  · exact hcell i' u hu
  · injection e with e1
    apply hne
    rw [hv, ha]
    simp [Value.ownBlock, e1]

/-- The answer was written into its place. -/
theorem FinS.told {w wr : World} {q0 qq : Nat} {v : Value} {b : List UInt8} {s n : Int} {u : Value} {os : List O} (h : FinS w wr q0 qq v b s n u os) (s' n' : Int) (u' : Value) :
    Below w.heap.size w (((wr.setCell ⟨q0, 0, none⟩ (.int .i64 s')).setCell ⟨q0, 1, none⟩ (.int .i64 n')).setCell ⟨q0, 2, none⟩ u') ∧
    Box3 (((wr.setCell ⟨q0, 0, none⟩ (.int .i64 s')).setCell ⟨q0, 1, none⟩ (.int .i64 n')).setCell ⟨q0, 2, none⟩ u') q0 s' n' u' ∧
    Ol (((wr.setCell ⟨q0, 0, none⟩ (.int .i64 s')).setCell ⟨q0, 1, none⟩ (.int .i64 n')).setCell ⟨q0, 2, none⟩ u') u os := by
  refine ⟨?_, ⟨?_, ?_, ?_⟩, ((h.ol.set _ h.u0).set _ h.u0).set _ h.u0⟩
  · exact Below.reader (Below.reader (Below.reader h.below (grownBy_setCell _ ⟨q0, 0, none⟩ _) (Nat.le_refl _) h.h0) (grownBy_setCell _ ⟨q0, 1, none⟩ _) (Nat.le_refl _) h.h0) (grownBy_setCell _ ⟨q0, 2, none⟩ _) (Nat.le_refl _) h.h0
  · rw [World.cell?_setCell_other _ _ _ _ (by simp), World.cell?_setCell_other _ _ _ _ (by simp)]
    exact World.cell?_setCell_same _ _ _ h.ans.box.c0
  · rw [World.cell?_setCell_other _ _ _ _ (by simp)]
    have e : (wr.setCell ⟨q0, 0, none⟩ (.int .i64 s')).cell? ⟨q0, 1, none⟩ = some (.int .i64 0) := by
      rw [World.cell?_setCell_other _ _ _ _ (by simp)]
      exact h.ans.box.c1
    exact World.cell?_setCell_same _ _ _ e
  · have e : ((wr.setCell ⟨q0, 0, none⟩ (.int .i64 s')).setCell ⟨q0, 1, none⟩ (.int .i64 n')).cell? ⟨q0, 2, none⟩ = some (.slice none 0 0) := by
      rw [World.cell?_setCell_other _ _ _ _ (by simp), World.cell?_setCell_other _ _ _ _ (by simp)]
      exact h.ans.box.c2
    exact World.cell?_setCell_same _ _ _ e

end Go.Proofs.YtcpajjjkhikipaaGreatDoor
