/- A node's cells one by one, its names wherever they lie, two nodes held against each other. -/
import Derived.Test.YtfcbdjjbchcpjaaDoorPln
import Derived.Laws.StructEq
import Derived.Laws.ResultCell
import Derived.Deep.Cut
namespace Go.Proofs.YtfcbdjjbchcpjaaDoor.Kq
/-- What is left where one goes: what is ahead of it, and what is behind. -/
theorem del_cut {l : List ByteArray} {s : ByteArray} (hr : Rises l) (h : s ∈ l) : del l s = l.take (low l s).length ++ l.drop ((low l s).length + 1) ∧ (low l s).length < l.length := by
  obtain ⟨r, h1, _, _⟩ := high_first hr h
  have h2 := del_eq hr h h1
  have h3 := low_high l s
  rw [h1] at h3
  generalize low l s = a at *
  subst h3
  rw [h2]
  refine ⟨?_, by simp⟩
  rw [List.take_left', List.drop_append]
  · simp
  · rfl
theorem low_at {l : List ByteArray} {s : ByteArray} {k : Nat} (h : k < (low l s).length) : ∃ x, l[k]? = some x ∧ lt x s = true := by
  refine ⟨(low l s)[k], ?_, low_lt (List.getElem_mem h)⟩
  conv => lhs; rw [← low_high l s]
  rw [List.getElem?_append_left h]
  exact List.getElem?_eq_getElem h
theorem low_len (l : List ByteArray) (s : ByteArray) : (low l s).length ≤ l.length := by
  have := congrArg List.length (low_high l s)
  rw [List.length_append] at this
  omega
theorem low_end {l : List ByteArray} {s x : ByteArray} (hr : Rises l) (h : l[(low l s).length]? = some x) : lt x s = false ∧ has l s = decide (x = s) := by
  have h1 : (high l s)[0]? = some x := by
    rw [← low_high l s] at h
    rw [List.getElem?_append_right (by simp [low_high]), low_high] at h
    simpa using h
  have hm : x ∈ high l s := List.mem_of_getElem? h1
  refine ⟨high_ge hr hm, ?_⟩
  rw [Bool.eq_iff_iff, has_iff, decide_eq_true_eq]
  constructor
  · intro hs
    obtain ⟨r, h2, _, _⟩ := high_first hr hs
    rw [h2] at h1
    exact (Option.some.inj h1).symm
  · rintro rfl
    rw [← low_high l x]
    exact List.mem_append.2 (Or.inr hm)
theorem low_all {l : List ByteArray} {s : ByteArray} (hr : Rises l) (h : (low l s).length = l.length) : has l s = false := by
  cases hh : has l s with
  | false => rfl
  | true =>
    obtain ⟨r, h2, _, _⟩ := high_first hr (has_iff.1 hh)
    have := congrArg List.length (low_high l s)
    rw [List.length_append, h2] at this
    simp at this
    omega
theorem low_take (l : List ByteArray) (s : ByteArray) : low l s = l.take (low l s).length ∧ high l s = l.drop (low l s).length := by
  have h := low_high l s
  refine ⟨?_, ?_⟩
  · conv => rhs; arg 2; rw [← h]
    rw [List.take_left' rfl]
  · conv => rhs; arg 2; rw [← h]
    rw [List.drop_left' rfl]
theorem ins_flat (l : List ByteArray) (s : ByteArray) : [l.take (low l s).length, [s], l.drop (low l s).length].flatten = ins l s := by
  rw [← (low_take l s).1, ← (low_take l s).2]
  simp [ins]
end Go.Proofs.YtfcbdjjbchcpjaaDoor.Kq
namespace Go.Proofs.YtfcbdjjbchcpjaaDoor
open Go.RowKit

/-- A node's names, wherever they lie. -/
def Nm (w : World) (v : Value) (ss : List ByteArray) : Prop := (v = .slice none 0 0 ∧ ss = []) ∨ ∃ g o c, v = .slice (some ⟨g, o, none⟩) ss.length c ∧ ss.length ≤ c ∧ ∀ (j : Nat) s, ss[j]? = some s → w.cell? ⟨g, o + j, none⟩ = some (.string s)
section
variable {w w' : World} {v : Value} {l : List ByteArray}
theorem Nm.below (h : Nm w v l) (hb : Below w.heap.size w w') : Nm w' v l := by
  rcases h with h | ⟨g, o, c, h1, h2, h3⟩
  · exact Or.inl h
  · exact Or.inr ⟨g, o, c, h1, h2, fun j s hs => Below.kept hb (h3 j s hs)⟩
theorem Nm.ss (h : Nm w v l) : Ss w v l := by
  rcases h with ⟨h1, h2⟩ | ⟨g, o, c, h1, h2, h3⟩
  · subst h2
    exact ⟨none, 0, 0, h1, rfl, fun j s hs => by simp at hs⟩
  · exact ⟨_, _, _, h1, rfl, fun j s hs => ⟨g, o, rfl, h3 j s hs⟩⟩
theorem Nm.of_row {B : Nat} (h : w.ownsRow B 9 1 v l.length (sc l)) : Nm w v l := by
  rcases h.2 with ⟨e, h0⟩ | ⟨g, cap, cur, e, hg, hblk, hcap, _, hsz, htk⟩
  · exact Or.inl ⟨e, List.length_eq_zero_iff.1 h0⟩
  · refine Or.inr ⟨g, 0, cap, e, hcap, fun j s hs => ?_⟩
    have hj := (List.getElem?_eq_some_iff.1 hs).1
    have hx : (sc l)[j]? = some (.string s) := by unfold sc; rw [List.getElem?_map, hs]; rfl
    rw [← htk, List.getElem?_take, if_pos (by omega), Array.getElem?_toList] at hx
    simp [World.cell?, hblk, hx]
end

theorem Nm.src {w : World} {v : Value} {l : List ByteArray} (h : Nm w v l) : Src w v l := by
  rcases h with h | ⟨g, o, c, h1, _, h3⟩
  · exact Or.inl h
  · exact Or.inr ⟨g, o, c, h1, h3⟩
/-- What lies in blocks made since. -/
def New10 (w : World) (u : Value) : Prop := ∀ k, u.ownBlock = some k → w.heap.size ≤ k

/-- Ten cells of a block, one by one. -/
theorem ten_cells {w : World} {q : Nat} {n : Kq.Kn} {v : Value} {t : TypeId} (h : Cb w q (k10 n v) t) : w.cell? ⟨q, 0, none⟩ = some (.int .i64 n.made) ∧ w.cell? ⟨q, 1, none⟩ = some (.int .i64 n.changed) ∧ w.cell? ⟨q, 2, none⟩ = some (.int .i64 n.ver) ∧ w.cell? ⟨q, 3, none⟩ = some (.int .i64 n.kids) ∧ w.cell? ⟨q, 4, none⟩ = some (.int .i64 n.owner) ∧ w.cell? ⟨q, 5, none⟩ = some (.int .i64 n.len) ∧ w.cell? ⟨q, 6, none⟩ = some (.int .i64 n.cnt) ∧ w.cell? ⟨q, 7, none⟩ = some (.string n.data) ∧ w.cell? ⟨q, 8, none⟩ = some (.int .i64 n.next) ∧ w.cell? ⟨q, 9, none⟩ = some v := by
  refine ⟨?_, ?_, ?_, ?_, ?_, ?_, ?_, ?_, ?_, ?_⟩ <;> (rw [h.cell]; rfl)
/-- A node is written down at another's place: cell by cell. -/
def put10 (w : World) (q : Nat) (n : Kq.Kn) (v : Value) : World := (((((((((w.setCell ⟨q, 0, none⟩ (.int .i64 n.made)).setCell ⟨q, 1, none⟩ (.int .i64 n.changed)).setCell ⟨q, 2, none⟩ (.int .i64 n.ver)).setCell ⟨q, 3, none⟩ (.int .i64 n.kids)).setCell ⟨q, 4, none⟩ (.int .i64 n.owner)).setCell ⟨q, 5, none⟩ (.int .i64 n.len)).setCell ⟨q, 6, none⟩ (.int .i64 n.cnt)).setCell ⟨q, 7, none⟩ (.string n.data)).setCell ⟨q, 8, none⟩ (.int .i64 n.next)).setCell ⟨q, 9, none⟩ v
theorem put10_cb {w : World} {q : Nat} {m n : Kq.Kn} {u v : Value} {t : TypeId} (h : Cb w q (k10 m u) t) : Cb (put10 w q n v) q (k10 n v) t := (((((((((h.set 0 _).set 1 _).set 2 _).set 3 _).set 4 _).set 5 _).set 6 _).set 7 _).set 8 _).set 9 _
theorem grown_set {w w1 : World} {q i : Nat} (h : w.grownBy w1 (some q)) (u : Value) : w.grownBy (w1.setCell ⟨q, i, none⟩ u) (some q) := by
  have g := grownBy_setCell w1 ⟨q, i, none⟩ u
  exact ⟨g.os.trans h.os, g.tape.trans h.tape, g.output.trans h.output, Nat.le_trans h.size g.size, fun k hk hq => (RowKit.Below.heap_setCell _ _ _ _ (fun e => hq (by rw [e]))).trans (h.block k hk hq)⟩
theorem put10_grown (w : World) (q : Nat) (n : Kq.Kn) (v : Value) : w.grownBy (put10 w q n v) (some q) :=
  grown_set (grown_set (grown_set (grown_set (grown_set (grown_set (grown_set (grown_set (grown_set (grown_set ⟨rfl, rfl, rfl, Nat.le_refl _, fun _ _ _ => rfl⟩ _) _) _) _) _) _) _) _) _) _

theorem results_one10 {fn : Func} {p : Tmp} {ty : TypeId} (h : fn.results = #[.cell p ty]) (tmps : Array Value) (P : Program) (w : World) :
    (results fn tmps).run P w = ((asAddr (tmps.getD p undef)).run P w).andThen fun a w₁ => (loadVar ty a).run P w₁ := by
  simp only [results, h]
  simp [Sem.run_bind, Result.andThen]

/-- Are what is told of two nodes alike? -/
def sameS (a b : Kq.Kn) : Bool := (a.made == b.made) && ((a.changed == b.changed) && ((a.ver == b.ver) && ((a.kids == b.kids) && ((a.owner == b.owner) && ((a.len == b.len) && (a.cnt == b.cnt))))))
theorem same_kn {a b : Kq.Kn} : a = b ↔ sameS a b = true ∧ a.data = b.data ∧ a.next = b.next ∧ a.names = b.names := by
  obtain ⟨a0, a1, a2, a3, a4, a5, a6, a7, a8, a9⟩ := a
  obtain ⟨b0, b1, b2, b3, b4, b5, b6, b7, b8, b9⟩ := b
  unfold sameS
  simp only [Bool.and_eq_true, beq_iff_eq, Kq.Kn.mk.injEq]
  constructor
  · rintro ⟨h0, h1, h2, h3, h4, h5, h6, h7, h8, h9⟩
    exact ⟨⟨h0, h1, h2, h3, h4, h5, h6⟩, h7, h8, h9⟩
  · rintro ⟨⟨h0, h1, h2, h3, h4, h5, h6⟩, h7, h8, h9⟩
    exact ⟨h0, h1, h2, h3, h4, h5, h6, h7, h8, h9⟩
theorem stat_equal (a b : Kq.Kn) (w : World) : (Op.equalIn 10000 30 (.agg #[.int .i64 a.made, .int .i64 a.changed, .int .i64 a.ver, .int .i64 a.kids, .int .i64 a.owner, .int .i64 a.len, .int .i64 a.cnt]) (.agg #[.int .i64 b.made, .int .i64 b.changed, .int .i64 b.ver, .int .i64 b.kids, .int .i64 b.owner, .int .i64 b.len, .int .i64 b.cnt])).run Tryd.prog w = .ok (sameS a b) w := by
  rw [run_equalIn_struct w 9999 _ _ _ (by kernel_rfl) (by kernel_rfl)]
  have hf : (Tryd.prog.fieldsOf 30).toList = [{ name := "Made", type := 2, offset := 0, embedded := false, tag := "", pkgPath := "", byteOffset := 0 }, { name := "Changed", type := 2, offset := 1, embedded := false, tag := "", pkgPath := "", byteOffset := 8 }, { name := "Version", type := 3, offset := 2, embedded := false, tag := "", pkgPath := "", byteOffset := 16 }, { name := "Kids", type := 3, offset := 3, embedded := false, tag := "", pkgPath := "", byteOffset := 24 }, { name := "Owner", type := 2, offset := 4, embedded := false, tag := "", pkgPath := "", byteOffset := 32 }, { name := "Length", type := 3, offset := 5, embedded := false, tag := "", pkgPath := "", byteOffset := 40 }, { name := "Count", type := 3, offset := 6, embedded := false, tag := "", pkgPath := "", byteOffset := 48 }] := by kernel_rfl
  rw [hf]
  unfold sameS
  have ui := Tryd.underlying3
  have us := Tryd.underlying2
  simp only [Op.eqFields]
  simp [go_sem, part, ui, us]
  by_cases h0 : a.made = b.made <;> simp [h0]
  by_cases h1 : a.changed = b.changed <;> simp [h1]
  by_cases h2 : a.ver = b.ver <;> simp [h2]
  by_cases h3 : a.kids = b.kids <;> simp [h3]
  by_cases h4 : a.owner = b.owner <;> simp [h4]
  by_cases h5 : a.len = b.len <;> simp [h5]
  by_cases h6 : a.cnt = b.cnt <;> simp [h6]
theorem stat_eql (a b : Kq.Kn) (w : World) : (binOp .eql 30 (.agg #[.int .i64 a.made, .int .i64 a.changed, .int .i64 a.ver, .int .i64 a.kids, .int .i64 a.owner, .int .i64 a.len, .int .i64 a.cnt]) (.agg #[.int .i64 b.made, .int .i64 b.changed, .int .i64 b.ver, .int .i64 b.kids, .int .i64 b.owner, .int .i64 b.len, .int .i64 b.cnt])).run Tryd.prog w = .ok (.bool (sameS a b)) w := by
  rw [run_eql_struct, stat_equal a b w]
  rfl
theorem stat_guard (op : BinOp) (x y : Operand) (xs ys : Array Value) (w : World) : (eqGuard op 30 x y (.agg xs) (.agg ys)).run Tryd.prog w = .ok () w := run_eqGuard_agg w op _ x y xs ys (by kernel_rfl)

end Go.Proofs.YtfcbdjjbchcpjaaDoor
