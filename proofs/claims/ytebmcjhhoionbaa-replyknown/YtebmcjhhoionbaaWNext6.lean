/- What reply.next answers, of every Reader. -/
import Derived.Test.YtebmcjhhoionbaaGetR
import Derived.Test.YtebmcjhhoionbaaPlainZ6
import Derived.Test.YtebmcjhhoionbaaLibW
import Derived.Test.YtebmcjhhoionbaaTakeAt
import Derived.Deep.DeepCutAuto
import Derived.Laws.ResultCell
namespace Go.Proofs.Ytebmcjhhoionbaa
open Go.RowKit

theorem XV.set0 {w : World} {q : Nat} {x : X} {nv : Value} (h : XV w q x nv) (y : Int) : XV (w.setCell ⟨q, 0, none⟩ (.int .i64 y)) q { x with err := y } nv := by
  refine ⟨⟨?_, ?_, ?_, ?_, ?_, ?_, ?_, ?_, ?_, ?_, ?_⟩, fun i => by simpa using h.free i⟩
  · exact World.cell?_setCell_same _ _ _ h.box.c0
  · rw [World.cell?_setCell_other _ _ _ _ (by simp)]; exact h.box.c1
  · rw [World.cell?_setCell_other _ _ _ _ (by simp)]; exact h.box.c2
  · rw [World.cell?_setCell_other _ _ _ _ (by simp)]; exact h.box.c3
  · rw [World.cell?_setCell_other _ _ _ _ (by simp)]; exact h.box.c4
  · rw [World.cell?_setCell_other _ _ _ _ (by simp)]; exact h.box.c5
  · rw [World.cell?_setCell_other _ _ _ _ (by simp)]; exact h.box.c6
  · rw [World.cell?_setCell_other _ _ _ _ (by simp)]; exact h.box.c7
  · rw [World.cell?_setCell_other _ _ _ _ (by simp)]; exact h.box.c8
  · rw [World.cell?_setCell_other _ _ _ _ (by simp)]; exact h.box.c9
  · rw [World.cell?_setCell_other _ _ _ _ (by simp)]; exact h.box.c10

/-- Eleven cells are written one after the other. -/
theorem XV.all11 {w : World} {q : Nat} {x0 : X} {u0 : Value} (h : XV w q x0 u0) (x : X) (nv : Value) :
    XV (((((((((((w.setCell ⟨q, 0, none⟩ (.int .i64 x.err)).setCell ⟨q, 1, none⟩ (.string x.path)).setCell ⟨q, 2, none⟩ (.string x.data)).setCell ⟨q, 3, none⟩ (nv)).setCell ⟨q, 4, none⟩ (.int .i64 x.made)).setCell ⟨q, 5, none⟩ (.int .i64 x.changed)).setCell ⟨q, 6, none⟩ (.int .i64 x.ver)).setCell ⟨q, 7, none⟩ (.int .i64 x.kids)).setCell ⟨q, 8, none⟩ (.int .i64 x.owner)).setCell ⟨q, 9, none⟩ (.int .i64 x.len)).setCell ⟨q, 10, none⟩ (.int .i64 x.cnt)) q x nv ∧ w.grownBy (((((((((((w.setCell ⟨q, 0, none⟩ (.int .i64 x.err)).setCell ⟨q, 1, none⟩ (.string x.path)).setCell ⟨q, 2, none⟩ (.string x.data)).setCell ⟨q, 3, none⟩ (nv)).setCell ⟨q, 4, none⟩ (.int .i64 x.made)).setCell ⟨q, 5, none⟩ (.int .i64 x.changed)).setCell ⟨q, 6, none⟩ (.int .i64 x.ver)).setCell ⟨q, 7, none⟩ (.int .i64 x.kids)).setCell ⟨q, 8, none⟩ (.int .i64 x.owner)).setCell ⟨q, 9, none⟩ (.int .i64 x.len)).setCell ⟨q, 10, none⟩ (.int .i64 x.cnt)) (some q) := by
  have h0 := h.set0 x.err
  have h1 := h0.set1 x.path
  have h2 := h1.set2 x.data
  have h3 := h2.set3 x.names nv
  have h4 := h3.set4 x.made
  have h5 := h4.set5 x.changed
  have h6 := h5.set6 x.ver
  have h7 := h6.set7 x.kids
  have h8 := h7.set8 x.owner
  have h9 := h8.set9 x.len
  have h10 := h9.set10 x.cnt
  exact ⟨h10, (grownBy_trans (grownBy_trans (grownBy_trans (grownBy_trans (grownBy_trans (grownBy_trans (grownBy_trans (grownBy_trans (grownBy_trans (grownBy_trans (grownBy_setCell w ⟨q, 0, none⟩ _) (grownBy_setCell _ ⟨q, 1, none⟩ _)) (grownBy_setCell _ ⟨q, 2, none⟩ _)) (grownBy_setCell _ ⟨q, 3, none⟩ _)) (grownBy_setCell _ ⟨q, 4, none⟩ _)) (grownBy_setCell _ ⟨q, 5, none⟩ _)) (grownBy_setCell _ ⟨q, 6, none⟩ _)) (grownBy_setCell _ ⟨q, 7, none⟩ _)) (grownBy_setCell _ ⟨q, 8, none⟩ _)) (grownBy_setCell _ ⟨q, 9, none⟩ _)) (grownBy_setCell _ ⟨q, 10, none⟩ _))⟩

theorem rI64_at (q : Nat) (xs : List UInt8) (bad : Bool) (w : World) (a : Int) (b : List UInt8) (c : Bool) (e : Pk.rI xs bad = (a, b, c)) (hR : Pw.Rd w q xs bad) :
    Calls Try.prog 23 #[.pointer (some ⟨q, 0, none⟩)] w fun e w' => e = .returned (.int .i64 a) ∧ Pw.Rd w' q b c ∧ w.grownBy w' (some q) := by
  have h := Pw.rI64_any q xs bad w hR
  rw [e] at h
  exact h
theorem rCount_at (q : Nat) (m : Int) (xs : List UInt8) (bad : Bool) (w : World) (a : Int) (b : List UInt8) (c : Bool) (e : Pk.rC m xs bad = (a, b, c)) (hR : Pw.Rd w q xs bad) :
    Calls Try.prog 24 #[.pointer (some ⟨q, 0, none⟩), .int .i64 m] w fun e w' => e = .returned (.int .i64 a) ∧ Pw.Rd w' q b c ∧ w.grownBy w' (some q) := by
  have h := Pw.rCount_any q m xs bad w hR
  rw [e] at h
  exact h
theorem rText_at (q : Nat) (m : Int) (xs : List UInt8) (bad : Bool) (w : World) (a : List UInt8) (b : List UInt8) (c : Bool) (e : Pk.rT m xs bad = (a, b, c)) (hR : Pw.Rd w q xs bad) :
    Calls Try.prog 41 #[.pointer (some ⟨q, 0, none⟩), .int .i64 m] w fun e w' => e = .returned (.string ⟨a.toArray⟩) ∧ Pw.Rd w' q b c ∧ w.grownBy w' (some q) := by
  have h := Pw.rText_any q m xs bad w hR
  rw [e] at h
  exact h

theorem grow_high {w wr w' : World} {qr k : Nat} (h : w.grownBy wr (some qr)) (hg : wr.grownBy w' (some k)) (hk : w.heap.size ≤ k) : w.grownBy w' (some qr) :=
  ⟨hg.os.trans h.os, hg.tape.trans h.tape, hg.output.trans h.output, Nat.le_trans h.size hg.size, fun i hi hne => (hg.block i (Nat.lt_of_lt_of_le hi h.size) (by simp; omega)).trans (h.block i hi hne)⟩

/-- What a next has under way: the answer's place at qa, the Reader at qr. -/
structure NextA (w wr : World) (qa qr : Nat) (ys : List UInt8) (bad : Bool) : Prop where
  rd : Pw.Rd wr qr ys bad
  ans : XV wr qa (Rq.skip 0) (.slice none 0 0)
  hr : qr < w.heap.size
  h0 : w.heap.size ≤ qa
  g : w.grownBy wr (some qr)

theorem NextA.read {w wr w' : World} {qa qr : Nat} {ys ys' : List UInt8} {bad bad' : Bool} (h : NextA w wr qa qr ys bad) (hr : Pw.Rd w' qr ys' bad') (hg : wr.grownBy w' (some qr)) : NextA w w' qa qr ys' bad' := by
  have h1 := h.hr
  have h2 := h.h0
  exact ⟨hr, h.ans.grown hg (by omega), h.hr, h.h0, grownBy_trans h.g hg⟩

theorem NextA.high {w wr w' : World} {qa qr k : Nat} {ys : List UInt8} {bad : Bool} (h : NextA w wr qa qr ys bad) (hg : wr.grownBy w' (some k)) (hk : qa < k) : NextA w w' qa qr ys bad := by
  have h1 := h.hr
  have h2 := h.h0
  exact ⟨h.rd.grown hg (by omega), h.ans.grown hg (by omega), h.hr, h.h0, grow_high h.g hg (by omega)⟩

/-- The result is being read, at qb. -/
structure NextS (w wr : World) (qa qb qr : Nat) (x : X) (nv : Value) (ys : List UInt8) (bad : Bool) : Prop where
  a : NextA w wr qa qr ys bad
  box : XV wr qb x nv
  nm : wr.ownsRow (qb + 1) 9 1 nv x.names.length (sc x.names)
  h1 : qa < qb

theorem NextA.boxed {w wr : World} {qa qr : Nat} {ys : List UInt8} {bad : Bool} (h : NextA w wr qa qr ys bad) (e : Int) (p d : ByteArray) (t : TypeId) :
    NextS w (wr.alloc (.cells #[.int .i64 e, .string p, .string d, .slice none 0 0, .int .i64 0, .int .i64 0, .int .i64 0, .int .i64 0, .int .i64 0, .int .i64 0, .int .i64 0] t)) qa wr.heap.size qr ⟨e, p, d, [], 0, 0, 0, 0, 0, 0, 0⟩ (.slice none 0 0) ys bad :=
  ⟨h.high (World.grownBy_alloc _ _ (some wr.heap.size)) h.ans.lt, XV.made wr ⟨e, p, d, [], 0, 0, 0, 0, 0, 0, 0⟩ _ _, World.ownsRow_nil _ _ _ _, h.ans.lt⟩

theorem NextS.read {w wr w' : World} {qa qb qr : Nat} {x : X} {nv : Value} {ys ys' : List UInt8} {bad bad' : Bool} (h : NextS w wr qa qb qr x nv ys bad) (hr : Pw.Rd w' qr ys' bad') (hg : wr.grownBy w' (some qr)) : NextS w w' qa qb qr x nv ys' bad' := by
  have h1 := h.a.hr
  have h2 := h.a.h0
  have h3 := h.h1
  exact ⟨h.a.read hr hg, h.box.grown hg (by omega), h.nm.kept hg (Or.inr fun e => by have := (h.nm.lt qr e).1; omega), h.h1⟩

theorem NextS.drew {w wr : World} {qa qb qr : Nat} {x : X} {nv : Value} {ys : List UInt8} {bad : Bool} (h : NextS w wr qa qb qr x nv ys bad) : NextS w wr.drew qa qb qr x nv ys bad :=
  h.read (h.a.rd.below (Below.refl _ _).drew) (grownBy_drew wr (some qr))

/-- A field of it is written. -/
theorem NextS.set {w wr : World} {qa qb qr : Nat} {x x' : X} {nv : Value} {ys : List UInt8} {bad : Bool} (h : NextS w wr qa qb qr x nv ys bad) (i : Nat) (y : Value) (hx : XV (wr.setCell ⟨qb, i, none⟩ y) qb x' nv) (hn : x'.names = x.names) : NextS w (wr.setCell ⟨qb, i, none⟩ y) qa qb qr x' nv ys bad := by
  have hs := grownBy_setCell wr ⟨qb, i, none⟩ y
  refine ⟨h.a.high hs h.h1, hx, ?_, h.h1⟩
  rw [hn]
  refine h.nm.kept hs (Or.inr fun e => ?_)
  have := (h.nm.lt qb e).1
  omega

theorem NextS.where_ {w wr wx w' : World} {qa qb qr : Nat} {x : X} {nv : Value} {ys : List UInt8} {bad : Bool} (h : NextS w wr qa qb qr x nv ys bad) (hal : wr.grownBy wx none) (hg : wx.grownBy w' nv.ownBlock) : ∃ k, wr.grownBy w' (some k) ∧ qb < k := by
  have hgg : wr.grownBy w' nv.ownBlock := grownBy_trans ⟨hal.os, hal.tape, hal.output, hal.size, fun k hk _ => hal.block k hk (by simp)⟩ hg
  cases e : nv.ownBlock with
  | none => exact ⟨wr.heap.size, grown_row hgg _ (fun k hk => by rw [e] at hk; cases hk), h.box.lt⟩
  | some k => exact ⟨k, grown_row hgg _ (fun k' hk' => by rw [e] at hk'; exact (Option.some.inj hk').symm), (h.nm.lt k e).1⟩

/-- A name more. -/
theorem NextS.name {w wr wx w' : World} {qa qb qr : Nat} {x : X} {nv nv' : Value} {ys : List UInt8} {bad : Bool} {t : ByteArray} (h : NextS w wr qa qb qr x nv ys bad) (hal : wr.grownBy wx none) (hg : wx.grownBy w' nv.ownBlock) (hown : w'.ownsRow (qb + 1) 9 1 nv' (x.names ++ [t]).length (sc (x.names ++ [t]))) :
    NextS w (w'.setCell ⟨qb, 3, none⟩ nv') qa qb qr { x with names := x.names ++ [t] } nv' ys bad := by
  obtain ⟨k, hk, hlt⟩ := h.where_ hal hg
  have hs := grownBy_setCell w' ⟨qb, 3, none⟩ nv'
  have h1 := h.h1
  have s1 := h.a.high hk (by omega)
  refine ⟨s1.high hs h.h1, (h.box.grown hk (by omega)).set3 _ _, hown.kept hs (Or.inr fun e => ?_), h.h1⟩
  have := (hown.lt qb e).1
  omega

/-- It is read, and written into the answer's place. -/
theorem NextS.told {w wr : World} {qa qb qr : Nat} {x : X} {nv : Value} {ys : List UInt8} {bad : Bool} (h : NextS w wr qa qb qr x nv ys bad) :
    BoxX (((((((((((wr.setCell ⟨qa, 0, none⟩ (.int .i64 x.err)).setCell ⟨qa, 1, none⟩ (.string x.path)).setCell ⟨qa, 2, none⟩ (.string x.data)).setCell ⟨qa, 3, none⟩ (nv)).setCell ⟨qa, 4, none⟩ (.int .i64 x.made)).setCell ⟨qa, 5, none⟩ (.int .i64 x.changed)).setCell ⟨qa, 6, none⟩ (.int .i64 x.ver)).setCell ⟨qa, 7, none⟩ (.int .i64 x.kids)).setCell ⟨qa, 8, none⟩ (.int .i64 x.owner)).setCell ⟨qa, 9, none⟩ (.int .i64 x.len)).setCell ⟨qa, 10, none⟩ (.int .i64 x.cnt)) qa x nv ∧ Pw.Rd (((((((((((wr.setCell ⟨qa, 0, none⟩ (.int .i64 x.err)).setCell ⟨qa, 1, none⟩ (.string x.path)).setCell ⟨qa, 2, none⟩ (.string x.data)).setCell ⟨qa, 3, none⟩ (nv)).setCell ⟨qa, 4, none⟩ (.int .i64 x.made)).setCell ⟨qa, 5, none⟩ (.int .i64 x.changed)).setCell ⟨qa, 6, none⟩ (.int .i64 x.ver)).setCell ⟨qa, 7, none⟩ (.int .i64 x.kids)).setCell ⟨qa, 8, none⟩ (.int .i64 x.owner)).setCell ⟨qa, 9, none⟩ (.int .i64 x.len)).setCell ⟨qa, 10, none⟩ (.int .i64 x.cnt)) qr ys bad ∧ (((((((((((wr.setCell ⟨qa, 0, none⟩ (.int .i64 x.err)).setCell ⟨qa, 1, none⟩ (.string x.path)).setCell ⟨qa, 2, none⟩ (.string x.data)).setCell ⟨qa, 3, none⟩ (nv)).setCell ⟨qa, 4, none⟩ (.int .i64 x.made)).setCell ⟨qa, 5, none⟩ (.int .i64 x.changed)).setCell ⟨qa, 6, none⟩ (.int .i64 x.ver)).setCell ⟨qa, 7, none⟩ (.int .i64 x.kids)).setCell ⟨qa, 8, none⟩ (.int .i64 x.owner)).setCell ⟨qa, 9, none⟩ (.int .i64 x.len)).setCell ⟨qa, 10, none⟩ (.int .i64 x.cnt)).ownsRow w.heap.size 9 1 nv x.names.length (sc x.names) ∧ w.grownBy (((((((((((wr.setCell ⟨qa, 0, none⟩ (.int .i64 x.err)).setCell ⟨qa, 1, none⟩ (.string x.path)).setCell ⟨qa, 2, none⟩ (.string x.data)).setCell ⟨qa, 3, none⟩ (nv)).setCell ⟨qa, 4, none⟩ (.int .i64 x.made)).setCell ⟨qa, 5, none⟩ (.int .i64 x.changed)).setCell ⟨qa, 6, none⟩ (.int .i64 x.ver)).setCell ⟨qa, 7, none⟩ (.int .i64 x.kids)).setCell ⟨qa, 8, none⟩ (.int .i64 x.owner)).setCell ⟨qa, 9, none⟩ (.int .i64 x.len)).setCell ⟨qa, 10, none⟩ (.int .i64 x.cnt)) (some qr) := by
  obtain ⟨k1, k2⟩ := h.a.ans.all11 x nv
  have h1 := h.a.hr
  have h2 := h.a.h0
  have h3 := h.h1
  refine ⟨k1.box, h.a.rd.grown k2 (by omega), ?_, grow_high h.a.g k2 (by omega)⟩
  have h4 := h.nm.kept k2 (Or.inr fun e => by have := (h.nm.lt qa e).1; omega)
  exact h4.mono (by omega)

set_option maxRecDepth 20000 in
set_option maxHeartbeats 8000000 in
theorem next_any6 (qr : Nat) (ys yE : List UInt8) (bad bE : Bool) (x : X) (w : World) (hx : Rq.nxX ys bad = (x, yE, bE)) (hR : Pw.Rd w qr ys bad) :
    Calls Try.prog 25 #[.pointer (some ⟨qr, 0, none⟩)] w fun e w' => ∃ nv, e = .returned (.agg #[.int .i64 x.err, .string x.path, .string x.data, nv, .int .i64 x.made, .int .i64 x.changed, .int .i64 x.ver, .int .i64 x.kids, .int .i64 x.owner, .int .i64 x.len, .int .i64 x.cnt]) ∧ Pw.Rd w' qr yE bE ∧ w'.ownsRow w.heap.size 9 1 nv x.names.length (sc x.names) ∧ w.grownBy w' (some qr) := by
  have HEQ : Hid (Rq.nxX ys bad = (x, yE, bE)) := hx
  clear hx
  obtain ⟨V0, yA, bA, hA⟩ : ∃ a b c, Pk.rI ys bad = (a, b, c) := ⟨_, _, _, rfl⟩
  obtain ⟨T1, yB, bB, hB⟩ : ∃ a b c, Pk.rT 20000 yA bA = (a, b, c) := ⟨_, _, _, rfl⟩
  obtain ⟨T2, yC, bC, hC⟩ : ∃ a b c, Pk.rT 20000 yB bB = (a, b, c) := ⟨_, _, _, rfl⟩
  obtain ⟨d, yD, bD, hD⟩ : ∃ (a : Nat) (b : List UInt8) (c : Bool), Pk.rC 500 yC bC = ((a : Int), b, c) := ⟨(Pk.rC 500 yC bC).1.toNat, (Pk.rC 500 yC bC).2.1, (Pk.rC 500 yC bC).2.2, by rw [Int.toNat_of_nonneg (Pk.rC_nonneg 500 yC bC)]⟩
  have hd : d ≤ 500 := by
    have h := (Rq.rC_le 500 (by decide) yC bC).2
    rw [hD] at h
    simp only [] at h
    omega
  have EA : Hid (Pk.rI ys bad = (V0, yA, bA)) := hA
  have EB : Hid (Pk.rT 20000 yA bA = (T1, yB, bB)) := hB
  have EC : Hid (Pk.rT 20000 yB bB = (T2, yC, bC)) := hC
  have ED : Hid (Pk.rC 500 yC bC = ((d : Int), yD, bD)) := hD
  clear hA hB hC hD
  obtain ⟨PB, hPB⟩ : ∃ z : ByteArray, z = ⟨T1.toArray⟩ := ⟨_, rfl⟩
  obtain ⟨DB, hDB⟩ : ∃ z : ByteArray, z = ⟨T2.toArray⟩ := ⟨_, rfl⟩
  have HPD : Hid (PB = ⟨T1.toArray⟩ ∧ DB = ⟨T2.toArray⟩) := ⟨hPB, hDB⟩
  clear hPB hDB
  obtain ⟨qa, hqa⟩ : ∃ q, q = w.heap.size := ⟨_, rfl⟩
  obtain ⟨w1, hw1⟩ : ∃ W, W = w.alloc (.cells #[.int .i64 0, .string ⟨#[]⟩, .string ⟨#[]⟩, .slice none 0 0, .int .i64 0, .int .i64 0, .int .i64 0, .int .i64 0, .int .i64 0, .int .i64 0, .int .i64 0] 35) := ⟨_, rfl⟩
  have HA1 : Hid (NextA w w1 qa qr ys bad) := by
    have hg : w.grownBy w1 (some qr) := by rw [hw1]; exact World.grownBy_alloc _ _ _
    have hb : Below w.heap.size w w1 := by rw [hw1]; exact (Below.refl _ w).alloc (Nat.le_refl _) _
    exact ⟨hR.below hb, by rw [hw1, hqa]; exact XV.made w (Rq.skip 0) _ _, hR.lt, by omega, hg⟩
  clear hR
  go_enter Try.func25, Try.ntmps25
  go_wp2_with fail
  rw [← hw1, ← hqa]
  clear hw1 hqa
  refine (rI64_at qr ys bad _ _ _ _ EA.out HA1.out.rd).mono ?_
  rintro e w2 ⟨rfl, hr, hg⟩
  have HA2 : Hid (NextA w w2 qa qr yA bA) := HA1.out.read hr hg
  clear hr hg
  go_wp2_with fail
  refine (rText_at qr 20000 yA bA _ _ _ _ EB.out HA2.out.rd).mono ?_
  rintro e w3 ⟨rfl, hr, hg⟩
  rw [← HPD.out.1]
  have HA3 : Hid (NextA w w3 qa qr yB bB) := HA2.out.read hr hg
  clear hr hg
  go_wp2_with fail
  refine (rText_at qr 20000 yB bB _ _ _ _ EC.out HA3.out.rd).mono ?_
  rintro e w4 ⟨rfl, hr, hg⟩
  rw [← HPD.out.2]
  have HA4 : Hid (NextA w w4 qa qr yC bC) := HA3.out.read hr hg
  clear hr hg
  obtain ⟨qb, hqb⟩ : ∃ q, q = w4.heap.size := ⟨_, rfl⟩
  obtain ⟨w5, hw5⟩ : ∃ W, W = w4.alloc (.cells #[.int .i64 V0, .string PB, .string DB, .slice none 0 0, .int .i64 0, .int .i64 0, .int .i64 0, .int .i64 0, .int .i64 0, .int .i64 0, .int .i64 0] 35) := ⟨_, rfl⟩
  have HS5 : Hid (NextS w w5 qa qb qr ⟨V0, PB, DB, [], 0, 0, 0, 0, 0, 0, 0⟩ (.slice none 0 0) yC bC) := by
    rw [hw5, hqb]
    exact HA4.out.boxed V0 PB DB _
  go_wp2_with fail
  rw [← hw5, ← hqb]
  clear hw5 hqb
  refine (rCount_at qr 500 yC bC _ _ _ _ ED.out HS5.out.a.rd).mono ?_
  rintro e w6 ⟨rfl, hr, hg⟩
  have HS6 : Hid (NextS w w6 qa qb qr ⟨V0, PB, DB, [], 0, 0, 0, 0, 0, 0, 0⟩ (.slice none 0 0) yD bD) := HS5.out.read hr hg
  clear hr hg
  go_wp2
  go_loopw [13] (fun i wr => ∃ (j : Nat) (ys2 : List UInt8) (bad2 : Bool) (nv' : Value) (ts : List ByteArray), j ≤ d ∧ i = .int .i64 (j : Int) ∧ ts.length = j ∧ NextS w wr qa qb qr ⟨V0, PB, DB, ts, 0, 0, 0, 0, 0, 0, 0⟩ nv' ys2 bad2 ∧ Rq.nxN d yD bD = (ts ++ (Rq.nxN (d - j) ys2 bad2).1, (Rq.nxN (d - j) ys2 bad2).2)) (fun i _ => ((d : Int) - intOf i).toNat)
  case atStart => exact ⟨0, yD, bD, .slice none 0 0, [], Nat.zero_le _, rfl, rfl, HS6.out, by simp⟩
  case round =>
    obtain ⟨j, ys2, bad2, nv2, ts, hj, rfl, htl, hgx, hrd⟩ := hrel
    obtain ⟨an, mn, cn, rfl⟩ : ∃ a m c, nv2 = .slice a m c := by
      rcases hgx.nm.2 with ⟨rfl, _⟩ | ⟨g, cap, cur, rfl, _⟩
      · exact ⟨_, _, _, rfl⟩
      · exact ⟨_, _, _, rfl⟩
    have HXH : Hid (NextS w wr qa qb qr ⟨V0, PB, DB, ts, 0, 0, 0, 0, 0, 0, 0⟩ (.slice an mn cn) ys2 bad2) := hgx
    have HRN : Hid (ts.length = j ∧ Rq.nxN d yD bD = (ts ++ (Rq.nxN (d - j) ys2 bad2).1, (Rq.nxN (d - j) ys2 bad2).2)) := ⟨htl, hrd⟩
    clear hgx htl hrd
    by_cases hlt2 : j < d
    · have hlt2' : (j : Int) < (d : Int) := by omega
      obtain ⟨T0, yT, bT, hT⟩ : ∃ a b c, Pk.rT 20000 ys2 bad2 = (a, b, c) := ⟨_, _, _, rfl⟩
      have ET : Hid (Pk.rT 20000 ys2 bad2 = (T0, yT, bT)) := hT
      clear hT
      obtain ⟨TB, hTB⟩ : ∃ z : ByteArray, z = ⟨T0.toArray⟩ := ⟨_, rfl⟩
      have HTB : Hid (TB = ⟨T0.toArray⟩) := hTB
      clear hTB
      have HRN2 : Hid ((ts ++ [TB]).length = j + 1 ∧ Rq.nxN d yD bD = ((ts ++ [TB]) ++ (Rq.nxN (d - (j + 1)) yT bT).1, (Rq.nxN (d - (j + 1)) yT bT).2)) := by
        refine ⟨by rw [List.length_append, HRN.out.1]; rfl, ?_⟩
        have h := Rq.nxN_step hlt2 HRN.out.2
        rw [ET.out] at h
        rw [HTB.out]
        exact h
      have HTL : Hid (ts.length ≤ 500) := by have := HRN.out.1; exact (by omega : ts.length ≤ 500)
      have HXX : Hid (NextS w wr.drew qa qb qr ⟨V0, PB, DB, ts, 0, 0, 0, 0, 0, 0, 0⟩ (.slice an mn cn) ys2 bad2) := HXH.out.drew
      go_wp2_with fail
      refine wp_region_held_drew (S := fun _ => True) (by kernel_rfl) trivial (fun _ => ?_)
      generalize wr.drew = wX at *
      refine' take_at (i := 0) (d := 15) (v := _) rfl rfl (by kernel_rfl) (by kernel_rfl) (by kernel_rfl) (fun _ _ _ h => h) (Or.inl ⟨by rfl, ?h0⟩) trivial ?_
      case h0 => intro w hSw; go_simp; with_reducible rfl
      simp only [List.setIfInBounds_toArray, List.set_cons_zero, List.set_cons_succ]
      refine' take_at (i := 2) (d := 17) (v := _) rfl rfl (by kernel_rfl) (by kernel_rfl) (by kernel_rfl) (fun _ _ _ h => h) (Or.inl ⟨by rfl, ?h2⟩) trivial ?_
      case h2 => intro w hSw; go_simp; with_reducible rfl
      simp only [List.setIfInBounds_toArray, List.set_cons_zero, List.set_cons_succ]
      refine wpAnyH_ready (rs := [1, 3]) (by kernel_rfl) (by simp) ?_
      refine AllReadyH.cons (o := _) rfl (fun K hK => ?_) (AllReadyH.cons (o := _) rfl (fun K hK => ?_) AllReadyH.nil)
      · have hc2 := HXX.out.box.box.c3
        go_simp
        clear hc2
        refine hK.out _ _ trivial (fun _ => ?_)
        clear hK K
        refine wpAnyH_ready (rs := [3]) (by kernel_rfl) (by simp) ?_
        refine AllReadyH.cons (o := _) rfl (fun K hK => ?_) AllReadyH.nil
        go_simp
        refine (rText_at qr 20000 ys2 bad2 _ _ _ _ ET.out HXX.out.a.rd).mono ?_
        rintro e wY ⟨rfl, hr, hg⟩
        rw [← HTB.out]
        have HXY : Hid (NextS w wY qa qb qr ⟨V0, PB, DB, ts, 0, 0, 0, 0, 0, 0, 0⟩ (.slice an mn cn) yT bT) := HXX.out.read hr hg
        clear hr hg
        simp only []
        refine hK.out _ _ trivial (fun _ => ?_)
        clear hK K
        refine wpAnyH_ready (rs := [4]) (by kernel_rfl) (by simp) ?_
        refine AllReadyH.cons (o := _) rfl (fun K hK => ?_) AllReadyH.nil
        go_simp
        refine hK.out _ _ trivial (fun _ => ?_)
        clear hK K
        obtain ⟨qz, hqz⟩ : ∃ q, q = wY.heap.size := ⟨_, rfl⟩
        rw [← hqz]
        refine wpAnyH_ready (rs := [5]) (by kernel_rfl) (by simp) ?_
        refine AllReadyH.cons (o := _) rfl (fun K hK => ?_) AllReadyH.nil
        refine wp_strs _ _ rfl (qb + 1) (.slice an mn cn) (.slice (some ⟨qz, 0, none⟩) 1 1) ts [TB] _ rfl rfl (HXY.out.nm.alloc _) (by rw [World.size_alloc]; have := HXY.out.box.lt; omega) (by rw [hqz]; exact Src.one wY TB _) (by have := HTL.out; simp only [List.length_cons, List.length_nil]; omega) ?_
        intro u2 wZ ho2 _ hg2
        obtain ⟨kz, hkz1, hkz2⟩ := HXY.out.where_ (World.grownBy_alloc _ _ none) hg2
        have HVZ : Hid (XV wZ qb ⟨V0, PB, DB, ts, 0, 0, 0, 0, 0, 0, 0⟩ (.slice an mn cn)) := HXY.out.box.grown hkz1 (by omega)
        obtain ⟨a2, m2, cc2, rfl⟩ : ∃ a m c, u2 = .slice a m c := by
          rcases ho2.2 with ⟨rfl, _⟩ | ⟨g, cap, cur, rfl, _⟩
          · exact ⟨_, _, _, rfl⟩
          · exact ⟨_, _, _, rfl⟩
        have HXZ : Hid (NextS w (wZ.setCell ⟨qb, 3, none⟩ (.slice a2 m2 cc2)) qa qb qr ⟨V0, PB, DB, (ts ++ [TB]), 0, 0, 0, 0, 0, 0, 0⟩ (.slice a2 m2 cc2) yT bT) := HXY.out.name (World.grownBy_alloc _ _ none) hg2 ho2
        clear ho2 hg2 hqz hkz1 hkz2
        go_simp
        refine hK.out _ _ trivial (fun _ => ?_)
        clear hK K
        refine' take_at (i := 6) (d := 21) (v := _) rfl rfl (by kernel_rfl) (by kernel_rfl) (by kernel_rfl) (fun _ _ _ h => h) (Or.inl ⟨by rfl, ?h6⟩) trivial ?_
        case h6 => intro w hSw; go_simp; with_reducible rfl
        simp only [List.setIfInBounds_toArray, List.set_cons_zero, List.set_cons_succ]
        refine wpAnyH_ready (rs := [7]) (by kernel_rfl) (by simp) ?_
        refine AllReadyH.cons (o := _) rfl (fun K hK => ?_) AllReadyH.nil
        have hc2 := HVZ.out.box.c3
        have hf2 := HVZ.out.free 3
        go_simp
        clear hc2 hf2
        refine hK.out _ _ trivial (fun _ => ?_)
        clear hK K
        refine wpAnyH_done (by kernel_rfl) ?_ _
        generalize wZ.setCell ⟨qb, 3, none⟩ (.slice a2 m2 cc2) = wW at *
        go_wp2
        go_roundw
        case rel => exact ⟨j + 1, yT, bT, .slice a2 m2 cc2, ts ++ [TB], by omega, by go_num, HRN2.out.1, HXZ.out, HRN2.out.2⟩
        case measure => simp [intOf]; omega
      · go_simp
        refine (rText_at qr 20000 ys2 bad2 _ _ _ _ ET.out HXX.out.a.rd).mono ?_
        rintro e wY ⟨rfl, hr, hg⟩
        rw [← HTB.out]
        have HXY : Hid (NextS w wY qa qb qr ⟨V0, PB, DB, ts, 0, 0, 0, 0, 0, 0, 0⟩ (.slice an mn cn) yT bT) := HXX.out.read hr hg
        clear hr hg
        simp only []
        refine hK.out _ _ trivial (fun _ => ?_)
        clear hK K
        refine wpAnyH_ready (rs := [1, 4]) (by kernel_rfl) (by simp) ?_
        refine AllReadyH.cons (o := _) rfl (fun K hK => ?_) (AllReadyH.cons (o := _) rfl (fun K hK => ?_) AllReadyH.nil)
        · have hc2 := HXY.out.box.box.c3
          go_simp
          clear hc2
          refine hK.out _ _ trivial (fun _ => ?_)
          clear hK K
          refine wpAnyH_ready (rs := [4]) (by kernel_rfl) (by simp) ?_
          refine AllReadyH.cons (o := _) rfl (fun K hK => ?_) AllReadyH.nil
          go_simp
          refine hK.out _ _ trivial (fun _ => ?_)
          clear hK K
          obtain ⟨qz, hqz⟩ : ∃ q, q = wY.heap.size := ⟨_, rfl⟩
          rw [← hqz]
          refine wpAnyH_ready (rs := [5]) (by kernel_rfl) (by simp) ?_
          refine AllReadyH.cons (o := _) rfl (fun K hK => ?_) AllReadyH.nil
          refine wp_strs _ _ rfl (qb + 1) (.slice an mn cn) (.slice (some ⟨qz, 0, none⟩) 1 1) ts [TB] _ rfl rfl (HXY.out.nm.alloc _) (by rw [World.size_alloc]; have := HXY.out.box.lt; omega) (by rw [hqz]; exact Src.one wY TB _) (by have := HTL.out; simp only [List.length_cons, List.length_nil]; omega) ?_
          intro u2 wZ ho2 _ hg2
          obtain ⟨kz, hkz1, hkz2⟩ := HXY.out.where_ (World.grownBy_alloc _ _ none) hg2
          have HVZ : Hid (XV wZ qb ⟨V0, PB, DB, ts, 0, 0, 0, 0, 0, 0, 0⟩ (.slice an mn cn)) := HXY.out.box.grown hkz1 (by omega)
          obtain ⟨a2, m2, cc2, rfl⟩ : ∃ a m c, u2 = .slice a m c := by
            rcases ho2.2 with ⟨rfl, _⟩ | ⟨g, cap, cur, rfl, _⟩
            · exact ⟨_, _, _, rfl⟩
            · exact ⟨_, _, _, rfl⟩
          have HXZ : Hid (NextS w (wZ.setCell ⟨qb, 3, none⟩ (.slice a2 m2 cc2)) qa qb qr ⟨V0, PB, DB, (ts ++ [TB]), 0, 0, 0, 0, 0, 0, 0⟩ (.slice a2 m2 cc2) yT bT) := HXY.out.name (World.grownBy_alloc _ _ none) hg2 ho2
          clear ho2 hg2 hqz hkz1 hkz2
          go_simp
          refine hK.out _ _ trivial (fun _ => ?_)
          clear hK K
          refine' take_at (i := 6) (d := 21) (v := _) rfl rfl (by kernel_rfl) (by kernel_rfl) (by kernel_rfl) (fun _ _ _ h => h) (Or.inl ⟨by rfl, ?h6⟩) trivial ?_
          case h6 => intro w hSw; go_simp; with_reducible rfl
          simp only [List.setIfInBounds_toArray, List.set_cons_zero, List.set_cons_succ]
          refine wpAnyH_ready (rs := [7]) (by kernel_rfl) (by simp) ?_
          refine AllReadyH.cons (o := _) rfl (fun K hK => ?_) AllReadyH.nil
          have hc2 := HVZ.out.box.c3
          have hf2 := HVZ.out.free 3
          go_simp
          clear hc2 hf2
          refine hK.out _ _ trivial (fun _ => ?_)
          clear hK K
          refine wpAnyH_done (by kernel_rfl) ?_ _
          generalize wZ.setCell ⟨qb, 3, none⟩ (.slice a2 m2 cc2) = wW at *
          go_wp2
          go_roundw
          case rel => exact ⟨j + 1, yT, bT, .slice a2 m2 cc2, ts ++ [TB], by omega, by go_num, HRN2.out.1, HXZ.out, HRN2.out.2⟩
          case measure => simp [intOf]; omega
        · go_simp
          refine hK.out _ _ trivial (fun _ => ?_)
          clear hK K
          refine wpAnyH_ready (rs := [1]) (by kernel_rfl) (by simp) ?_
          refine AllReadyH.cons (o := _) rfl (fun K hK => ?_) AllReadyH.nil
          have hc2 : (wY.alloc (.cells #[.string TB] 9)).cell? ⟨qb, 3, none⟩ = some (.slice an mn cn) := Below.kept ((Below.refl _ wY).alloc (Nat.le_refl _) _) HXY.out.box.box.c3
          go_simp
          clear hc2
          refine hK.out _ _ trivial (fun _ => ?_)
          clear hK K
          obtain ⟨qz, hqz⟩ : ∃ q, q = wY.heap.size := ⟨_, rfl⟩
          rw [← hqz]
          refine wpAnyH_ready (rs := [5]) (by kernel_rfl) (by simp) ?_
          refine AllReadyH.cons (o := _) rfl (fun K hK => ?_) AllReadyH.nil
          refine wp_strs _ _ rfl (qb + 1) (.slice an mn cn) (.slice (some ⟨qz, 0, none⟩) 1 1) ts [TB] _ rfl rfl (HXY.out.nm.alloc _) (by rw [World.size_alloc]; have := HXY.out.box.lt; omega) (by rw [hqz]; exact Src.one wY TB _) (by have := HTL.out; simp only [List.length_cons, List.length_nil]; omega) ?_
          intro u2 wZ ho2 _ hg2
          obtain ⟨kz, hkz1, hkz2⟩ := HXY.out.where_ (World.grownBy_alloc _ _ none) hg2
          have HVZ : Hid (XV wZ qb ⟨V0, PB, DB, ts, 0, 0, 0, 0, 0, 0, 0⟩ (.slice an mn cn)) := HXY.out.box.grown hkz1 (by omega)
          obtain ⟨a2, m2, cc2, rfl⟩ : ∃ a m c, u2 = .slice a m c := by
            rcases ho2.2 with ⟨rfl, _⟩ | ⟨g, cap, cur, rfl, _⟩
            · exact ⟨_, _, _, rfl⟩
            · exact ⟨_, _, _, rfl⟩
          have HXZ : Hid (NextS w (wZ.setCell ⟨qb, 3, none⟩ (.slice a2 m2 cc2)) qa qb qr ⟨V0, PB, DB, (ts ++ [TB]), 0, 0, 0, 0, 0, 0, 0⟩ (.slice a2 m2 cc2) yT bT) := HXY.out.name (World.grownBy_alloc _ _ none) hg2 ho2
          clear ho2 hg2 hqz hkz1 hkz2
          go_simp
          refine hK.out _ _ trivial (fun _ => ?_)
          clear hK K
          refine' take_at (i := 6) (d := 21) (v := _) rfl rfl (by kernel_rfl) (by kernel_rfl) (by kernel_rfl) (fun _ _ _ h => h) (Or.inl ⟨by rfl, ?h6⟩) trivial ?_
          case h6 => intro w hSw; go_simp; with_reducible rfl
          simp only [List.setIfInBounds_toArray, List.set_cons_zero, List.set_cons_succ]
          refine wpAnyH_ready (rs := [7]) (by kernel_rfl) (by simp) ?_
          refine AllReadyH.cons (o := _) rfl (fun K hK => ?_) AllReadyH.nil
          have hc2 := HVZ.out.box.c3
          have hf2 := HVZ.out.free 3
          go_simp
          clear hc2 hf2
          refine hK.out _ _ trivial (fun _ => ?_)
          clear hK K
          refine wpAnyH_done (by kernel_rfl) ?_ _
          generalize wZ.setCell ⟨qb, 3, none⟩ (.slice a2 m2 cc2) = wW at *
          go_wp2
          go_roundw
          case rel => exact ⟨j + 1, yT, bT, .slice a2 m2 cc2, ts ++ [TB], by omega, by go_num, HRN2.out.1, HXZ.out, HRN2.out.2⟩
          case measure => simp [intOf]; omega
    · have hlt2' : ¬ (j : Int) < (d : Int) := by omega
      have EN : Hid (Rq.nxN d yD bD = (ts, ys2, bad2)) := by
        have h : Rq.nxN d yD bD = (ts, ys2, bad2) := by
          have h := HRN.out.2
          rw [show d - j = 0 by omega] at h
          rw [h]
          simp [Rq.nxN]
        exact h
      obtain ⟨M0, yS0, bS0, hM⟩ : ∃ a b c, Pk.rI ys2 bad2 = (a, b, c) := ⟨_, _, _, rfl⟩
      have EM0 : Hid (Pk.rI ys2 bad2 = (M0, yS0, bS0)) := hM
      clear hM
      obtain ⟨M1, yS1, bS1, hM⟩ : ∃ a b c, Pk.rI yS0 bS0 = (a, b, c) := ⟨_, _, _, rfl⟩
      have EM1 : Hid (Pk.rI yS0 bS0 = (M1, yS1, bS1)) := hM
      clear hM
      obtain ⟨M2, yS2, bS2, hM⟩ : ∃ a b c, Pk.rI yS1 bS1 = (a, b, c) := ⟨_, _, _, rfl⟩
      have EM2 : Hid (Pk.rI yS1 bS1 = (M2, yS2, bS2)) := hM
      clear hM
      obtain ⟨M3, yS3, bS3, hM⟩ : ∃ a b c, Pk.rI yS2 bS2 = (a, b, c) := ⟨_, _, _, rfl⟩
      have EM3 : Hid (Pk.rI yS2 bS2 = (M3, yS3, bS3)) := hM
      clear hM
      obtain ⟨M4, yS4, bS4, hM⟩ : ∃ a b c, Pk.rI yS3 bS3 = (a, b, c) := ⟨_, _, _, rfl⟩
      have EM4 : Hid (Pk.rI yS3 bS3 = (M4, yS4, bS4)) := hM
      clear hM
      obtain ⟨M5, yS5, bS5, hM⟩ : ∃ a b c, Pk.rI yS4 bS4 = (a, b, c) := ⟨_, _, _, rfl⟩
      have EM5 : Hid (Pk.rI yS4 bS4 = (M5, yS5, bS5)) := hM
      clear hM
      obtain ⟨M6, yS6, bS6, hM⟩ : ∃ a b c, Pk.rI yS5 bS5 = (a, b, c) := ⟨_, _, _, rfl⟩
      have EM6 : Hid (Pk.rI yS5 bS5 = (M6, yS6, bS6)) := hM
      clear hM
      have HFIN : Hid (x = ⟨V0, PB, DB, ts, M0, M1, M2, M3, M4, M5, M6⟩ ∧ yE = yS6 ∧ bE = bS6) := by
        have h := HEQ.out
        unfold Rq.nxX Rq.rdS at h
        simp only [EA.out, EB.out, EC.out, ED.out, Int.toNat_natCast, EN.out, EM0.out, EM1.out, EM2.out, EM3.out, EM4.out, EM5.out, EM6.out, Prod.mk.injEq] at h
        rw [HPD.out.1, HPD.out.2]
        exact ⟨h.1.symm, h.2.1.symm, h.2.2.symm⟩
      go_wp2_with fail
      refine (rI64_at qr ys2 bad2 _ _ _ _ EM0.out HXH.out.a.rd).mono ?_
      rintro e wM0 ⟨rfl, hr, hg⟩
      have HM0 : Hid (NextS w wM0 qa qb qr ⟨V0, PB, DB, ts, 0, 0, 0, 0, 0, 0, 0⟩ (.slice an mn cn) yS0 bS0) := HXH.out.read hr hg
      clear hr hg
      go_wp2_with fail
      refine (rI64_at qr yS0 bS0 _ _ _ _ EM1.out HM0.out.a.rd).mono ?_
      rintro e wM1 ⟨rfl, hr, hg⟩
      have HM1 : Hid (NextS w wM1 qa qb qr ⟨V0, PB, DB, ts, 0, 0, 0, 0, 0, 0, 0⟩ (.slice an mn cn) yS1 bS1) := HM0.out.read hr hg
      clear hr hg
      have hc4 := HM1.out.box.box.c4
      have hf4 := HM1.out.box.free 4
      have hc5 := HM1.out.box.box.c5
      have hf5 := HM1.out.box.free 5
      have HT1 : Hid (NextS w ((wM1.setCell ⟨qb, 4, none⟩ (.int .i64 M0)).setCell ⟨qb, 5, none⟩ (.int .i64 M1)) qa qb qr ⟨V0, PB, DB, ts, M0, M1, 0, 0, 0, 0, 0⟩ (.slice an mn cn) yS1 bS1) := (HM1.out.set 4 _ (HM1.out.box.set4 M0) rfl).set 5 _ ((HM1.out.box.set4 M0).set5 M1) rfl
      go_wp2_with fail
      clear hc4 hf4 hc5 hf5
      generalize (wM1.setCell ⟨qb, 4, none⟩ (.int .i64 M0)).setCell ⟨qb, 5, none⟩ (.int .i64 M1) = wN1 at *
      refine (rI64_at qr yS1 bS1 _ _ _ _ EM2.out HT1.out.a.rd).mono ?_
      rintro e wM2 ⟨rfl, hr, hg⟩
      have HM2 : Hid (NextS w wM2 qa qb qr ⟨V0, PB, DB, ts, M0, M1, 0, 0, 0, 0, 0⟩ (.slice an mn cn) yS2 bS2) := HT1.out.read hr hg
      clear hr hg
      go_wp2_with fail
      refine (rI64_at qr yS2 bS2 _ _ _ _ EM3.out HM2.out.a.rd).mono ?_
      rintro e wM3 ⟨rfl, hr, hg⟩
      have HM3 : Hid (NextS w wM3 qa qb qr ⟨V0, PB, DB, ts, M0, M1, 0, 0, 0, 0, 0⟩ (.slice an mn cn) yS3 bS3) := HM2.out.read hr hg
      clear hr hg
      have hc4 := HM3.out.box.box.c6
      have hf4 := HM3.out.box.free 6
      have hc5 := HM3.out.box.box.c7
      have hf5 := HM3.out.box.free 7
      have HT2 : Hid (NextS w ((wM3.setCell ⟨qb, 6, none⟩ (.int .i64 M2)).setCell ⟨qb, 7, none⟩ (.int .i64 M3)) qa qb qr ⟨V0, PB, DB, ts, M0, M1, M2, M3, 0, 0, 0⟩ (.slice an mn cn) yS3 bS3) := (HM3.out.set 6 _ (HM3.out.box.set6 M2) rfl).set 7 _ ((HM3.out.box.set6 M2).set7 M3) rfl
      go_wp2_with fail
      clear hc4 hf4 hc5 hf5
      generalize (wM3.setCell ⟨qb, 6, none⟩ (.int .i64 M2)).setCell ⟨qb, 7, none⟩ (.int .i64 M3) = wN2 at *
      refine (rI64_at qr yS3 bS3 _ _ _ _ EM4.out HT2.out.a.rd).mono ?_
      rintro e wM4 ⟨rfl, hr, hg⟩
      have HM4 : Hid (NextS w wM4 qa qb qr ⟨V0, PB, DB, ts, M0, M1, M2, M3, 0, 0, 0⟩ (.slice an mn cn) yS4 bS4) := HT2.out.read hr hg
      clear hr hg
      have hc4 := HM4.out.box.box.c8
      have hf4 := HM4.out.box.free 8
      have HT3 : Hid (NextS w (wM4.setCell ⟨qb, 8, none⟩ (.int .i64 M4)) qa qb qr ⟨V0, PB, DB, ts, M0, M1, M2, M3, M4, 0, 0⟩ (.slice an mn cn) yS4 bS4) := HM4.out.set 8 _ (HM4.out.box.set8 M4) rfl
      go_wp2_with fail
      clear hc4 hf4
      generalize wM4.setCell ⟨qb, 8, none⟩ (.int .i64 M4) = wN3 at *
      refine (rI64_at qr yS4 bS4 _ _ _ _ EM5.out HT3.out.a.rd).mono ?_
      rintro e wM5 ⟨rfl, hr, hg⟩
      have HM5 : Hid (NextS w wM5 qa qb qr ⟨V0, PB, DB, ts, M0, M1, M2, M3, M4, 0, 0⟩ (.slice an mn cn) yS5 bS5) := HT3.out.read hr hg
      clear hr hg
      go_wp2_with fail
      refine (rI64_at qr yS5 bS5 _ _ _ _ EM6.out HM5.out.a.rd).mono ?_
      rintro e wM6 ⟨rfl, hr, hg⟩
      have HM6 : Hid (NextS w wM6 qa qb qr ⟨V0, PB, DB, ts, M0, M1, M2, M3, M4, 0, 0⟩ (.slice an mn cn) yS6 bS6) := HM5.out.read hr hg
      clear hr hg
      have hc4 := HM6.out.box.box.c9
      have hf4 := HM6.out.box.free 9
      have hc5 := HM6.out.box.box.c10
      have hf5 := HM6.out.box.free 10
      have HT4 : Hid (NextS w ((wM6.setCell ⟨qb, 9, none⟩ (.int .i64 M5)).setCell ⟨qb, 10, none⟩ (.int .i64 M6)) qa qb qr ⟨V0, PB, DB, ts, M0, M1, M2, M3, M4, M5, M6⟩ (.slice an mn cn) yS6 bS6) := (HM6.out.set 9 _ (HM6.out.box.set9 M5) rfl).set 10 _ ((HM6.out.box.set9 M5).set10 M6) rfl
      go_upto_region 10 with fail
      clear hc4 hf4 hc5 hf5
      generalize (wM6.setCell ⟨qb, 9, none⟩ (.int .i64 M5)).setCell ⟨qb, 10, none⟩ (.int .i64 M6) = wN4 at *
      obtain ⟨b0, b1, b2, b3, b4, b5, b6, b7, b8, b9, b10⟩ := HT4.out.box.box
      obtain ⟨c0, c1, c2, c3, c4, c5, c6, c7, c8, c9, c10⟩ := HT4.out.a.ans.box
      have f0 := HT4.out.a.ans.free 0
      have f1 := HT4.out.a.ans.free 1
      have f2 := HT4.out.a.ans.free 2
      have f3 := HT4.out.a.ans.free 3
      have f4 := HT4.out.a.ans.free 4
      have f5 := HT4.out.a.ans.free 5
      have f6 := HT4.out.a.ans.free 6
      have f7 := HT4.out.a.ans.free 7
      have f8 := HT4.out.a.ans.free 8
      have f9 := HT4.out.a.ans.free 9
      have f10 := HT4.out.a.ans.free 10
      simp only [Rq.skip] at b0 b1 b2 b3 b4 b5 b6 b7 b8 b9 b10 c0 c1 c2 c3 c4 c5 c6 c7 c8 c9 c10
      go_wp2
      clear b0 b1 b2 b3 b4 b5 b6 b7 b8 b9 b10 c0 c1 c2 c3 c4 c5 c6 c7 c8 c9 c10 f0 f1 f2 f3 f4 f5 f6 f7 f8 f9 f10
      have htold := HT4.out.told
      simp only [] at htold
      generalize ((((((((((wN4.setCell ⟨qa, 0, none⟩ (.int .i64 V0)).setCell ⟨qa, 1, none⟩ (.string PB)).setCell ⟨qa, 2, none⟩ (.string DB)).setCell ⟨qa, 3, none⟩ (.slice an mn cn)).setCell ⟨qa, 4, none⟩ (.int .i64 M0)).setCell ⟨qa, 5, none⟩ (.int .i64 M1)).setCell ⟨qa, 6, none⟩ (.int .i64 M2)).setCell ⟨qa, 7, none⟩ (.int .i64 M3)).setCell ⟨qa, 8, none⟩ (.int .i64 M4)).setCell ⟨qa, 9, none⟩ (.int .i64 M5)).setCell ⟨qa, 10, none⟩ (.int .i64 M6) = wz at *
      obtain ⟨⟨z0, z1, z2, z3, z4, z5, z6, z7, z8, z9, z10⟩, hzr, hzo, hzg⟩ := htold
      simp only [] at z0 z1 z2 z3 z4 z5 z6 z7 z8 z9 z10
      obtain ⟨hx1, hx2, hx3⟩ := HFIN.out
      (try simp only [Exit.inBlock, Exit.then])
      refine bodyPost_ret (v := .agg #[.int .i64 V0, .string PB, .string DB, .slice an mn cn, .int .i64 M0, .int .i64 M1, .int .i64 M2, .int .i64 M3, .int .i64 M4, .int .i64 M5, .int .i64 M6]) ?_ rfl ⟨.slice an mn cn, by rw [hx1], by rw [hx2, hx3]; exact hzr, by rw [hx1]; exact hzo, hzg⟩
      simp [results, Try.results25, go_sem, z0, z1, z2, z3, z4, z5, z6, z7, z8, z9, z10]
end Go.Proofs.Ytebmcjhhoionbaa
