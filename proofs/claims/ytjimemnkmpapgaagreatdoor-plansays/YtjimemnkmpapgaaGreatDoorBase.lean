/- Bytes, numbers and texts wherever they lie; appending. No package of the program is named. -/
import Derived.Test.YtjimemnkmpapgaaGreatDoorProg
import Derived.WalkKit
import Derived.WalkSpells
import Derived.WalkLawsBesides
import Derived.OwnWalk
import Derived.Lib.BufSteps
import Derived.Laws.AppendOwnNone
import Derived.Deep.Onto
import Derived.Laws.OwnMore
import Derived.Deep.AppendLies
namespace Go.Proofs.YtjimemnkmpapgaaGreatDoor
open Go.RowKit

theorem infoByte : (Tryz.prog.info? 5).map (fun i => (i.zero, i.size, i.bytes)) = some (some (.int .u8 0), 1, 1) := by kernel_rfl

/-- The cells of bytes. -/
def bc (xs : List UInt8) : List Value := xs.map fun b => Value.int .u8 b.toNat

theorem bc_len (xs : List UInt8) : (bc xs).length = xs.length := by simp [bc]

theorem bc_one (xs : List UInt8) : ∀ u ∈ bc xs, u.oneCell' = true := by
  intro u hu
  obtain ⟨_, _, rfl⟩ := List.mem_map.1 hu
  rfl

theorem bc_app (xs ys : List UInt8) : bc (xs ++ ys) = bc xs ++ bc ys := by simp [bc]

/-- At this address lie these bytes; where there is no address there are none. -/
structure Sl (w : World) (ao : Option Addr) (c : Nat) (xs : List UInt8) : Prop where
  cap : xs.length ≤ c
  nil : ao = none → xs.length = 0 ∧ c = 0
  cells : ∀ ad, ao = some ad → ∀ j u, (bc xs)[j]? = some u → w.cell? (ad.add j) = some u

theorem Sl.alloc {w : World} {ao : Option Addr} {c : Nat} {xs : List UInt8} (h : Sl w ao c xs) (o : Obj) : Sl (w.alloc o) ao c xs :=
  ⟨h.cap, h.nil, fun ad had j u hu => (World.grownBy_alloc w o none).cell (h.cells ad had j u hu) (by simp)⟩

theorem Sl.below {w w' : World} {ao : Option Addr} {c : Nat} {xs : List UInt8} (h : Sl w ao c xs) (hb : Below w.heap.size w w') : Sl w' ao c xs :=
  ⟨h.cap, h.nil, fun ad had j u hu => by have hc := h.cells ad had j u hu; rw [hb.cell (World.block_lt_of_cell? w _ hc)]; exact hc⟩

/-- What a call owns can be read. -/
theorem Sl.own {w : World} {B n c : Nat} {ao : Option Addr} {xs : List UInt8} (h : w.ownsRow B 5 1 (.slice ao n c) n (bc xs)) : n = xs.length ∧ Sl w ao c xs := by
  have hl : n = xs.length := by have := h.1; rw [bc_len] at this; omega
  refine ⟨hl, ?_, ?_, ?_⟩
  · rcases h.2 with ⟨hv, h0⟩ | ⟨g, cap, cur, hv, _, _, hnc, _⟩
    · omega
    · simp only [Value.slice.injEq] at hv
      omega
  · intro e; subst e
    rcases h.2 with ⟨hv, h0⟩ | ⟨g, cap, cur, hv, _⟩
    · simp at hv; exact ⟨by omega, hv.2⟩
    · simp at hv
  · intro ad had j u hu
    subst had
    rcases h.2 with ⟨hv, _⟩ | ⟨g, cap, cur, hv, _⟩
    · simp at hv
    · simp only [Value.slice.injEq, Option.some.injEq] at hv
      obtain ⟨rfl, _, rfl⟩ := hv
      exact h.cells rfl j u hu

theorem own_shape {w : World} {B n : Nat} {v : Value} {xs : List Value} (h : w.ownsRow B 5 1 v n xs) : ∃ ao c, v = .slice ao n c := by
  rcases h.2 with ⟨hv, h0⟩ | ⟨g, cap, cur, hv, _⟩
  · subst h0; exact ⟨_, _, hv⟩
  · exact ⟨_, _, hv⟩

/-- One byte more, behind what the call owns. -/
theorem append_byte {ops : Array Oper} {rest : List Oper} {o : Oper} {a : Act} {Q : Exit → Act → World → Prop} (hgd : o.guard = none) (s x : Operand)
    (ho : o.op = .call { callee := .builtin .append, args := #[s, x], argTypes := #[160, 160] })
    (B : Nat) (v : Value) (n : Nat) (xs : List UInt8) (hs : a.eval s = v) (w0 : World) (c : Int) (b : UInt8) (hown : w0.ownsRow B 5 1 v n (bc xs)) (hB : B ≤ w0.heap.size)
    (hx : a.eval x = .slice (some ⟨w0.heap.size, 0, none⟩) 1 1) (hlen : n ≤ 100000000) (hc : c = b.toNat)
    (h : ∀ v' w', w'.ownsRow B 5 1 v' (n + 1) (bc (xs ++ [b])) → Below B w0 w' → wpList Tryz.prog ops Q rest (a.put o.dst v') w') : wpList Tryz.prog ops Q (o :: rest) a (w0.alloc (.cells #[.int .u8 c] 5)) := by
  obtain ⟨i0, hi, hz0, hz1, hz2⟩ := info_parts infoByte
  subst hc
  refine wpList_append_own _ hgd s x 160 ho B 5 i0 (.int .u8 0) 1 1 Tryz.underlying160 hi hz0 hz1 hz2 rfl (by decide) v n (bc xs) hs (hown.alloc _) ⟨w0.heap.size, 0, none⟩ 1 1 (bc [b]) hx rfl ?_ (bc_one _) (by unfold maxLen; omega) (by omega) (by simp; omega) ?_
  · intro j u hj
    match j, hj with
    | 0, hj => simp [bc] at hj; subst hj; simp [Addr.add]
    | (j + 1), hj => simp [bc] at hj
  · intro v' w' ho' hg _
    exact h v' w' (by rw [bc_app]; exact ho') (((Below.refl B w0).alloc hB _).grown hg (by simp; omega) (fun k hk => (hown.lt k hk).1))

/-- A text, behind what the call owns. -/
theorem append_text {ops : Array Oper} {rest : List Oper} {o : Oper} {a : Act} {Q : Exit → Act → World → Prop} (hgd : o.guard = none) (sl x : Operand)
    (ho : o.op = .call { callee := .builtin .append, args := #[sl, x], argTypes := #[160, 9] })
    (B : Nat) (v : Value) (n : Nat) (xs : List UInt8) (hs : a.eval sl = v) (w : World) (hown : w.ownsRow B 5 1 v n (bc xs)) (hB : B ≤ w.heap.size) (s : ByteArray) (hx : a.eval x = .string s) (hlen : n + s.size ≤ 100000000)
    (h : ∀ v' w', w'.ownsRow B 5 1 v' (n + s.size) (bc (xs ++ s.data.toList)) → Below B w w' → wpList Tryz.prog ops Q rest (a.put o.dst v') w') : wpList Tryz.prog ops Q (o :: rest) a w := by
  obtain ⟨i0, hi, hz0, hz1, hz2⟩ := info_parts infoByte
  refine Lib.wpList_append_own_string w hgd sl x 160 9 ho B 5 i0 Tryz.underlying160 Tryz.underlying9 hi hz0 hz1 hz2 v n (bc xs) hs hown s hx (by unfold maxLen; omega) (by omega) hB ?_
  intro v' w' ho' hg _
  exact h v' w' (by rw [bc_app]; exact ho') ((Below.refl B w).grown hg hB (fun k hk => (hown.lt k hk).1))

/-- A cell that was there when the call began. -/
theorem Below.kept {w w' : World} (h : Below w.heap.size w w') {p : Addr} {v : Value} (hc : w.cell? p = some v) : w'.cell? p = some v := by
  rw [h.cell (World.block_lt_of_cell? w p hc)]; exact hc

theorem grownBy_trans {w w1 w2 : World} {row : Option Nat} (h : w.grownBy w1 row) (k : w1.grownBy w2 row) : w.grownBy w2 row :=
  ⟨k.os.trans h.os, k.tape.trans h.tape, k.output.trans h.output, Nat.le_trans h.size k.size, fun i hi hne => (k.block i (Nat.lt_of_lt_of_le hi h.size) hne).trans (h.block i hi hne)⟩

theorem grownBy_setCell (w : World) (a : Addr) (u : Value) : w.grownBy (w.setCell a u) (some a.block) :=
  ⟨rfl, rfl, rfl, by simp [World.setCell], fun k _ hne => Below.heap_setCell _ _ _ _ (by simpa using hne)⟩

theorem grownBy_below {w w' : World} {row : Option Nat} (h : Below w.heap.size w w') : w.grownBy w' row := ⟨h.os, h.tape, h.output, h.size, fun k hk _ => h.block k hk⟩

theorem grownBy_drewN (w : World) (n : Nat) (row : Option Nat) : w.grownBy (w.drewN n) row := ⟨rfl, rfl, rfl, Nat.le_refl _, fun _ _ _ => rfl⟩

/-- A value is a slice of these bytes. -/
def Bs (w : World) (v : Value) (xs : List UInt8) : Prop := ∃ ao n c, v = .slice ao n c ∧ n = xs.length ∧ Sl w ao c xs

theorem Bs.below {w w' : World} {v : Value} {xs : List UInt8} (h : Bs w v xs) (hb : Below w.heap.size w w') : Bs w' v xs := by
  obtain ⟨ao, n, c, rfl, hn, hs⟩ := h
  exact ⟨ao, n, c, rfl, hn, hs.below hb⟩

theorem Bs.grown {w w' : World} {v : Value} {xs : List UInt8} {r : Nat} (h : Bs w v xs) (hg : w.grownBy w' (some r)) (hr : 0 < xs.length → v.ownBlock ≠ some r) : Bs w' v xs := by
  obtain ⟨ao, n, c, rfl, hn, hs⟩ := h
  refine ⟨ao, n, c, rfl, hn, hs.cap, hs.nil, fun ad had j u hu => hg.cell (hs.cells ad had j u hu) ?_⟩
  subst had
  intro e
  have h0 : 0 < xs.length := by
    have := (List.getElem?_eq_some_iff.1 hu).1
    rw [bc_len] at this
    omega
  apply hr h0
  rw [← e]
  simp only [Value.ownBlock, Addr.add]
  split <;> rfl

theorem Bs.nil (w : World) : Bs w (.slice none 0 0) [] := ⟨none, 0, 0, rfl, rfl, Nat.le_refl _, fun _ => ⟨rfl, rfl⟩, fun _ h => by cases h⟩

theorem Bs.own {w : World} {B n : Nat} {v : Value} {xs : List UInt8} (h : w.ownsRow B 5 1 v n (bc xs)) : Bs w v xs := by
  obtain ⟨ao, c, rfl⟩ := own_shape h
  exact ⟨ao, n, c, rfl, (Sl.own h).1, (Sl.own h).2⟩

/-- 'string(b)'. -/
theorem Bs.conv {w : World} {v : Value} {xs : List UInt8} (h : Bs w v xs) : (convert 160 9 v).run Tryz.prog w = .ok (.string ⟨xs.toArray⟩) w := by
  obtain ⟨ao, n, c, rfl, hn, hs⟩ := h
  cases ao with
  | none =>
    have h0 := (hs.nil rfl).1
    obtain rfl : xs = [] := List.length_eq_zero_iff.1 h0
    exact run_convert_bytes_nil w 160 5 Tryz.underlying160 Tryz.underlying5 _ _ 9 Tryz.underlying9
  | some a =>
    subst hn
    exact run_convert_bytes_back (P := Tryz.prog) w 160 9 5 a c xs Tryz.underlying160 Tryz.underlying5 Tryz.underlying9 (fun j hj => hs.cells a rfl j _ (by simp [bc, List.getElem?_eq_getElem hj]))

theorem Bs.cut {w : World} {ao : Option Addr} {n c k : Nat} {xs : List UInt8} (h : Bs w (.slice ao n c) xs) (hk : k ≤ n) : Bs w (.slice ao k c) (xs.take k) := by
  obtain ⟨ao', n', c', hv, hn, hs⟩ := h
  simp only [Value.slice.injEq] at hv
  obtain ⟨rfl, rfl, rfl⟩ := hv
  refine ⟨ao, k, c, rfl, by rw [List.length_take]; omega, by rw [List.length_take]; have := hs.cap; omega, fun e => ?_, fun ad had j u hu => ?_⟩
  · have := hs.nil e
    exact ⟨by rw [List.length_take]; omega, this.2⟩
  · refine hs.cells ad had j u ?_
    unfold bc at hu ⊢
    rw [List.map_take, List.getElem?_take] at hu
    split at hu
    · exact hu
    · cases hu

/-- A value is a slice of these numbers. -/
def Bi (w : World) (u : Value) (zs : List Int) : Prop := ∃ av k c, u = .slice av k c ∧ k = zs.length ∧ ∀ (j : Nat) z, zs[j]? = some z → ∃ g o, av = some ⟨g, o, none⟩ ∧ w.cell? ⟨g, o + j, none⟩ = some (.int .i64 z)

theorem Bi.below {w w' : World} {v : Value} {zs : List Int} (h : Bi w v zs) (hb : Below w.heap.size w w') : Bi w' v zs := by
  obtain ⟨av, k, c, hv, hk, hc⟩ := h
  refine ⟨av, k, c, hv, hk, fun j z hz => ?_⟩
  obtain ⟨g, o, ha, hcell⟩ := hc j z hz
  exact ⟨g, o, ha, Below.kept hb hcell⟩

/-- A value is a slice of these texts. -/
def Ss (w : World) (u : Value) (ss : List ByteArray) : Prop := ∃ av k c, u = .slice av k c ∧ k = ss.length ∧ ∀ (j : Nat) s, ss[j]? = some s → ∃ g o, av = some ⟨g, o, none⟩ ∧ w.cell? ⟨g, o + j, none⟩ = some (.string s)

theorem Ss.below {w w' : World} {v : Value} {ss : List ByteArray} (h : Ss w v ss) (hb : Below w.heap.size w w') : Ss w' v ss := by
  obtain ⟨av, k, c, hv, hk, hc⟩ := h
  refine ⟨av, k, c, hv, hk, fun j z hz => ?_⟩
  obtain ⟨g, o, ha, hcell⟩ := hc j z hz
  exact ⟨g, o, ha, Below.kept hb hcell⟩

/-- What a Reader's call changes lies from B on. -/
theorem Below.reader {B q : Nat} {w w1 w2 : World} (h : Below B w w1) (hg : w1.grownBy w2 (some q)) (hB : B ≤ w.heap.size) (hq : B ≤ q) : Below B w w2 :=
  h.grown hg (Nat.le_trans hB h.size) (fun k hk => by simp at hk; omega)

/-- 'append([]byte{}, b...)': a row of the call's own. -/
theorem append_copy {ops : Array Oper} {rest : List Oper} {o : Oper} {a : Act} {Q : Exit → Act → World → Prop} (hgd : o.guard = none) (s x : Operand)
    (ho : o.op = .call { callee := .builtin .append, args := #[s, x], argTypes := #[160, 160] })
    (v : Value) (xs : List UInt8) (w0 : World) (hs : a.eval s = .slice (some ⟨w0.heap.size, 0, none⟩) 0 0) (hx : a.eval x = v) (hb : Bs w0 v xs) (hN : xs.length ≤ 200000)
    (h : ∀ v' w', w'.ownsRow w0.heap.size 5 1 v' xs.length (bc xs) → Below w0.heap.size w0 w' → wpList Tryz.prog ops Q rest (a.put o.dst v') w') : wpList Tryz.prog ops Q (o :: rest) a (w0.alloc (.cells #[] 5)) := by
  obtain ⟨i0, hi, hz0, hz1, hz2⟩ := info_parts infoByte
  obtain ⟨ao, n, c, rfl, hn, hsl⟩ := hb
  have hown : (w0.alloc (.cells #[] 5)).ownsRow w0.heap.size 5 1 (.slice (some ⟨w0.heap.size, 0, none⟩) 0 0) 0 (bc []) := World.ownsRow_made w0 #[] 0 (Nat.le_refl _) (by decide) rfl
  have hal := hsl.alloc (.cells #[] 5)
  cases ao with
  | none =>
    obtain ⟨h0, rfl⟩ := hsl.nil rfl
    obtain rfl : xs = [] := List.length_eq_zero_iff.1 h0
    obtain rfl : n = 0 := hn
    exact wpList_append_own_none hgd s x 160 ho w0.heap.size 5 i0 1 Tryz.underlying160 hi _ 0 (bc []) hs hown hx (h _ _ hown ((Below.refl _ w0).alloc (Nat.le_refl _) _))
  | some ad =>
    subst hn
    refine wpList_append_own _ hgd s x 160 ho w0.heap.size 5 i0 (.int .u8 0) 1 1 Tryz.underlying160 hi hz0 hz1 hz2 rfl (by decide) _ 0 (bc []) hs hown ad xs.length c (bc xs) hx (by rw [bc_len]; omega) (hal.cells ad rfl) (bc_one _) (by unfold maxLen; omega) (by omega) (by simp) ?_
    intro v' w' ho' hg _
    refine h v' w' (by simpa [bc] using ho') (((Below.refl _ w0).alloc (Nat.le_refl _) _).grown hg (by simp) (fun k hk => ?_))
    simp [Value.ownBlock] at hk; omega

/-- Bytes that are there lie at a plain address. -/
theorem Bs.plain {w : World} {v : Value} {xs : List UInt8} (h : Bs w v xs) (h0 : 0 < xs.length) : ∃ g o n c, v = .slice (some ⟨g, o, none⟩) n c ∧ n = xs.length ∧ n ≤ c ∧ ∀ (j : Nat) x, xs[j]? = some x → w.cell? ⟨g, o + j, none⟩ = some (.int .u8 (x.toNat : Int)) := by
  obtain ⟨ao, n, c, rfl, hn, hs⟩ := h
  cases ao with
  | none => have := (hs.nil rfl).1; omega
  | some ad =>
    obtain ⟨b, off, spot⟩ := ad
    have hc0 := hs.cells _ rfl 0 (.int .u8 ((xs[0]).toNat : Int)) (by simp [bc, List.getElem?_eq_getElem h0])
    have hspot : spot = none := by simpa [Addr.add] using World.cell?_spot hc0
    subst hspot
    refine ⟨b, off, n, c, rfl, hn, by rw [hn]; exact hs.cap, fun j x hx => ?_⟩
    have := hs.cells _ rfl j (.int .u8 (x.toNat : Int)) (by simp [bc, hx])
    rwa [Addr.add_lit] at this

theorem bs_of_plain {w : World} {g o n c : Nat} {xs : List UInt8} (hn : n = xs.length) (hc : n ≤ c) (h : ∀ (j : Nat) x, xs[j]? = some x → w.cell? ⟨g, o + j, none⟩ = some (.int .u8 (x.toNat : Int))) : Bs w (.slice (some ⟨g, o, none⟩) n c) xs := by
  refine ⟨_, n, c, rfl, hn, by omega, fun e => by (cases e), fun ad had j u hu => ?_⟩
  obtain rfl := Option.some.inj had
  rw [Addr.add_lit]
  unfold bc at hu
  rw [List.getElem?_map] at hu
  obtain ⟨x, hx, rfl⟩ := Option.map_eq_some_iff.1 hu
  exact h j x hx

theorem ret_bool {a b : Bool} (h : a = b) : Ending.returned (.bool a) = .returned (.bool b) := by rw [h]

theorem bytes_eq {a b : ByteArray} (h : (a.toList == b.toList) = true) : a = b := by
  have h1 : a.toList = b.toList := by simpa using h
  rw [ByteArray.toList_eq, ByteArray.toList_eq] at h1
  exact ByteArray.ext (Array.toList_inj.1 h1)

/-- No bytes at all are an empty text, wherever they lie. -/
theorem conv_none (ao : Option Addr) (c : Nat) (w : World) : (convert 160 9 (.slice ao 0 c)).run Tryz.prog w = .ok (.string ⟨#[]⟩) w := by
  cases ao with
  | none => exact run_convert_bytes_nil w 160 5 Tryz.underlying160 Tryz.underlying5 _ _ 9 Tryz.underlying9
  | some a => exact run_convert_bytes_back (P := Tryz.prog) w 160 9 5 a c [] Tryz.underlying160 Tryz.underlying5 Tryz.underlying9 (fun j hj => by simp at hj)

theorem below_drew {w w' : World} (h : Below w.drew.heap.size w.drew w') : Below w.heap.size w w' := ⟨h.os, h.tape, h.output, h.size, h.block⟩

theorem grownBy_drew (w : World) (row : Option Nat) : w.grownBy w.drew row := ⟨rfl, rfl, rfl, Nat.le_refl _, fun _ _ _ => rfl⟩

theorem below_drewN {B : Nat} {w wr : World} (h : Below B w wr) (q : Nat) : Below B w (wr.drewN q) := ⟨h.os, h.tape, h.output, h.size, h.block⟩

/-- One byte of what a call owns is changed. -/
theorem own_set {w : World} {B n g cap i : Nat} {xs : List UInt8} (b : UInt8) (h : w.ownsRow B 5 1 (.slice (some ⟨g, 0, none⟩) n cap) n (bc xs)) : (w.setCell ⟨g, i, none⟩ (.int .u8 (b.toNat : Int))).ownsRow B 5 1 (.slice (some ⟨g, 0, none⟩) n cap) n (bc (xs.set i b)) := by
  have h2 := (h.stored i (.int .u8 (b.toNat : Int))).1
  have e : bc (xs.set i b) = (bc xs).set i (.int .u8 (b.toNat : Int)) := by unfold bc; rw [List.map_set]
  rw [e]
  exact h2

/-- A value is a slice of rows of bytes. -/
def Bl (w : World) (u : Value) (ls : List (List UInt8)) : Prop := ∃ av k c, u = .slice av k c ∧ k = ls.length ∧ ∀ (j : Nat) xs, ls[j]? = some xs → ∃ g o v, av = some ⟨g, o, none⟩ ∧ w.cell? ⟨g, o + j, none⟩ = some v ∧ Bs w v xs

theorem Bl.below {w w' : World} {v : Value} {ls : List (List UInt8)} (h : Bl w v ls) (hb : Below w.heap.size w w') : Bl w' v ls := by
  obtain ⟨av, k, c, hv, hk, hc⟩ := h
  refine ⟨av, k, c, hv, hk, fun j z hz => ?_⟩
  obtain ⟨g, o, u, ha, hcell, hbs⟩ := hc j z hz
  exact ⟨g, o, u, ha, Below.kept hb hcell, hbs.below hb⟩

theorem Bl.one {w : World} {u : Value} {xs : List UInt8} (t : TypeId) (h : Bs w u xs) : Bl (w.alloc (.cells #[u] t)) (.slice (some ⟨w.heap.size, 0, none⟩) 1 1) [xs] := by
  refine ⟨_, _, _, rfl, rfl, fun j ys hy => ?_⟩
  match j, hy with
  | 0, hy =>
    simp at hy; subst hy
    exact ⟨w.heap.size, 0, u, rfl, by simp, h.below ((Below.refl _ w).alloc (Nat.le_refl _) _)⟩
  | (j + 1), hy => simp at hy

theorem Bl.nil (w : World) : Bl w (.slice none 0 0) [] := ⟨_, _, _, rfl, rfl, fun j ys hy => by simp at hy⟩

theorem cell?_alloc_at (w : World) (cs : Array Value) (t : TypeId) (fz : Nat × Nat) (j : Nat) (v : Value) (h : cs[j]? = some v) : (w.alloc (.cells cs t fz)).cell? ⟨w.heap.size, j, none⟩ = some v := by
  simp only [World.cell?, World.alloc, Array.getElem?_push, if_true]
  simpa using h

theorem Bs.made (w : World) (xs : List UInt8) (t : TypeId) (fz : Nat × Nat) : Bs (w.alloc (.cells (bc xs).toArray t fz)) (.slice (some ⟨w.heap.size, 0, none⟩) xs.length xs.length) xs := by
  refine bs_of_plain rfl (Nat.le_refl _) fun j x hx => ?_
  rw [Nat.zero_add]
  exact cell?_alloc_at _ _ _ _ _ _ (by simp [bc, hx])
theorem xor8 (a b : UInt8) : bits .xor .u8 (a.toNat : Int) (b.toNat : Int) = ((a ^^^ b).toNat : Int) := by
  show IntKind.wrap .u8 ((BitVec.ofInt 8 (a.toNat : Int) ^^^ BitVec.ofInt 8 (b.toNat : Int)).toNat : Int) = _
  have h : ∀ c : UInt8, BitVec.ofInt 8 (c.toNat : Int) = c.toBitVec := fun c => by
    show BitVec.ofInt 8 (c.toBitVec.toNat : Int) = c.toBitVec
    rw [BitVec.ofInt_natCast, BitVec.ofNat_toNat, BitVec.setWidth_eq]
  rw [h, h, ← UInt8.toBitVec_xor, IntKind.wrap_u8]
  have := (a ^^^ b).toBitVec.isLt
  show (((a ^^^ b).toBitVec.toNat : Int)) % 256 = ((a ^^^ b).toBitVec.toNat : Int)
  omega

theorem made_bytes (n : Nat) : (madeCells (Value.int .u8 0).cells (n * 1)).toList = bc (List.replicate n 0) := by
  rw [Nat.mul_one]
  apply List.ext_getElem
  · simp [madeCells, bc]
  · intro i h1 h2
    simp [madeCells, bc, Value.cells]
    have : i % 1 = 0 := Nat.mod_one i
    simp [this]

/-- 'make([]byte, n)': noughts. -/
theorem make_bytes {ops : Array Oper} {rest : List Oper} {o : Oper} {a : Act} {Q : Exit → Act → World → Prop} (hgd : o.guard = none) (l c : Operand) (ho : o.op = .makeSlice 160 l c)
    (n : Nat) (w : World) (hl : a.eval l = .int .i64 (n : Int)) (hc : a.eval c = .int .i64 (n : Int)) (hN : n ≤ 100000000)
    (h : ∀ w', w'.ownsRow w.heap.size 5 1 (.slice (some ⟨w.heap.size, 0, none⟩) n n) n (bc (List.replicate n 0)) → Below w.heap.size w w' → wpList Tryz.prog ops Q rest (a.put o.dst (.slice (some ⟨w.heap.size, 0, none⟩) n n)) w') : wpList Tryz.prog ops Q (o :: rest) a w := by
  obtain ⟨i0, hi, hz0, hz1, hz2⟩ := info_parts infoByte
  refine wpList_make_full w hgd l c 160 ho w.heap.size 5 i0 (.int .u8 0) 1 Tryz.underlying160 hi hz0 hz1 .i64 .i64 n n n hl hc rfl rfl (by rw [hz2]; omega) (by unfold maxLen; omega) (Nat.le_refl _) ?_
  intro w' hown hg
  rw [made_bytes] at hown
  exact h w' hown ((Below.refl _ w).grown hg (Nat.le_refl _) (fun k hk => by cases hk))

/-- 'append(s, x...)': bytes wherever they lie, behind what the call owns. -/
theorem append_bs {ops : Array Oper} {rest : List Oper} {o : Oper} {a : Act} {Q : Exit → Act → World → Prop} (hgd : o.guard = none) (s x : Operand)
    (ho : o.op = .call { callee := .builtin .append, args := #[s, x], argTypes := #[160, 160] })
    (B : Nat) (v u : Value) (n : Nat) (xs ys : List UInt8) (w : World) (hs : a.eval s = v) (hx : a.eval x = u) (hown : w.ownsRow B 5 1 v n (bc xs)) (hB : B ≤ w.heap.size) (hb : Bs w u ys) (hN : n + ys.length ≤ 1000000000)
    (h : ∀ v' w', w'.ownsRow B 5 1 v' (n + ys.length) (bc (xs ++ ys)) → Below B w w' → wpList Tryz.prog ops Q rest (a.put o.dst v') w') : wpList Tryz.prog ops Q (o :: rest) a w := by
  obtain ⟨i0, hi, hz0, hz1, hz2⟩ := info_parts infoByte
  obtain ⟨ao, m, c, rfl, hm, hsl⟩ := hb
  cases ao with
  | none =>
    obtain ⟨h0, rfl⟩ := hsl.nil rfl
    obtain rfl : ys = [] := List.length_eq_zero_iff.1 h0
    obtain rfl : m = 0 := hm
    exact wpList_append_own_none hgd s x 160 ho B 5 i0 1 Tryz.underlying160 hi v n (bc xs) hs hown hx (h _ _ (by simpa using hown) (Below.refl _ w))
  | some ad =>
    subst hm
    refine wpList_append_own _ hgd s x 160 ho B 5 i0 (.int .u8 0) 1 1 Tryz.underlying160 hi hz0 hz1 hz2 rfl (by decide) v n (bc xs) hs hown ad ys.length c (bc ys) hx (by rw [bc_len]; omega) (hsl.cells ad rfl) (bc_one _) (by unfold maxLen; omega) (by omega) hB ?_
    intro v' w' ho' hg _
    exact h v' w' (by rw [bc_app]; exact ho') ((Below.refl _ w).grown hg hB (fun k hk => (hown.lt k hk).1))

theorem any_yes {α : Type} {l : List α} {k : Nat} {x : α} {p : α → Bool} (h : l[k]? = some x) (hp : p x = true) : l.any p = true :=
  List.any_eq_true.2 ⟨x, List.mem_of_getElem? h, hp⟩

/-- A call answers whether something is so. -/
def BoolP (p : Prop) (w : World) (e : Ending) (w' : World) : Prop := ∃ R : Bool, e = .returned (.bool R) ∧ (R = true ↔ p) ∧ Below w.heap.size w w'
end Go.Proofs.YtjimemnkmpapgaaGreatDoor
