/- Replies and results that were boxed; results that are not too great. -/
import Derived.Test.YtebmcjhhoionbaaXs
namespace Go.Proofs.Ytebmcjhhoionbaa
open Go.RowKit

/-- A reply as a value; its Results lie elsewhere. -/
def rv (r : Rp) (u : Value) : Value := .agg #[.int .i64 r.num, .int .i64 r.zxid, .int .i64 r.err, .int .i64 r.at_, u]

/-- The five cells of a reply that was boxed. -/
structure BoxR (w : World) (q : Nat) (r : Rp) (u : Value) : Prop where
  c0 : w.cell? ⟨q, 0, none⟩ = some (.int .i64 r.num)
  c1 : w.cell? ⟨q, 1, none⟩ = some (.int .i64 r.zxid)
  c2 : w.cell? ⟨q, 2, none⟩ = some (.int .i64 r.err)
  c3 : w.cell? ⟨q, 3, none⟩ = some (.int .i64 r.at_)
  c4 : w.cell? ⟨q, 4, none⟩ = some u

theorem BoxR.below {w w' : World} {q : Nat} {r : Rp} {u : Value} (h : BoxR w q r u) (hb : Below w.heap.size w w') : BoxR w' q r u :=
  ⟨Below.kept hb h.c0, Below.kept hb h.c1, Below.kept hb h.c2, Below.kept hb h.c3, Below.kept hb h.c4⟩

theorem BoxR.made (w : World) (r : Rp) (u : Value) (t : TypeId) : BoxR (w.alloc (.cells #[.int .i64 r.num, .int .i64 r.zxid, .int .i64 r.err, .int .i64 r.at_, u] t)) w.heap.size r u :=
  ⟨cell?_alloc_at _ _ _ _ _ _ rfl, cell?_alloc_at _ _ _ _ _ _ rfl, cell?_alloc_at _ _ _ _ _ _ rfl, cell?_alloc_at _ _ _ _ _ _ rfl, cell?_alloc_at _ _ _ _ _ _ rfl⟩

theorem BoxR.all {w : World} {q : Nat} {r : Rp} {u : Value} (h : BoxR w q r u) : w.cell? ⟨q, 0, none⟩ = some (.int .i64 r.num) ∧ w.cell? ⟨q, 1, none⟩ = some (.int .i64 r.zxid) ∧ w.cell? ⟨q, 2, none⟩ = some (.int .i64 r.err) ∧ w.cell? ⟨q, 3, none⟩ = some (.int .i64 r.at_) ∧ w.cell? ⟨q, 4, none⟩ = some u := ⟨h.c0, h.c1, h.c2, h.c3, h.c4⟩

/-- The eleven cells of a result that was boxed. -/
structure BoxX (w : World) (q : Nat) (x : X) (nv : Value) : Prop where
  c0 : w.cell? ⟨q, 0, none⟩ = some (.int .i64 x.err)
  c1 : w.cell? ⟨q, 1, none⟩ = some (.string x.path)
  c2 : w.cell? ⟨q, 2, none⟩ = some (.string x.data)
  c3 : w.cell? ⟨q, 3, none⟩ = some nv
  c4 : w.cell? ⟨q, 4, none⟩ = some (.int .i64 x.made)
  c5 : w.cell? ⟨q, 5, none⟩ = some (.int .i64 x.changed)
  c6 : w.cell? ⟨q, 6, none⟩ = some (.int .i64 x.ver)
  c7 : w.cell? ⟨q, 7, none⟩ = some (.int .i64 x.kids)
  c8 : w.cell? ⟨q, 8, none⟩ = some (.int .i64 x.owner)
  c9 : w.cell? ⟨q, 9, none⟩ = some (.int .i64 x.len)
  c10 : w.cell? ⟨q, 10, none⟩ = some (.int .i64 x.cnt)

theorem BoxX.below {w w' : World} {q : Nat} {x : X} {nv : Value} (h : BoxX w q x nv) (hb : Below w.heap.size w w') : BoxX w' q x nv :=
  ⟨Below.kept hb h.c0, Below.kept hb h.c1, Below.kept hb h.c2, Below.kept hb h.c3, Below.kept hb h.c4, Below.kept hb h.c5, Below.kept hb h.c6, Below.kept hb h.c7, Below.kept hb h.c8, Below.kept hb h.c9, Below.kept hb h.c10⟩

theorem BoxX.made (w : World) (x : X) (nv : Value) (t : TypeId) : BoxX (w.alloc (.cells #[.int .i64 x.err, .string x.path, .string x.data, nv, .int .i64 x.made, .int .i64 x.changed, .int .i64 x.ver, .int .i64 x.kids, .int .i64 x.owner, .int .i64 x.len, .int .i64 x.cnt] t)) w.heap.size x nv :=
  ⟨cell?_alloc_at _ _ _ _ _ _ rfl, cell?_alloc_at _ _ _ _ _ _ rfl, cell?_alloc_at _ _ _ _ _ _ rfl, cell?_alloc_at _ _ _ _ _ _ rfl, cell?_alloc_at _ _ _ _ _ _ rfl, cell?_alloc_at _ _ _ _ _ _ rfl, cell?_alloc_at _ _ _ _ _ _ rfl, cell?_alloc_at _ _ _ _ _ _ rfl, cell?_alloc_at _ _ _ _ _ _ rfl, cell?_alloc_at _ _ _ _ _ _ rfl, cell?_alloc_at _ _ _ _ _ _ rfl⟩

theorem BoxX.all {w : World} {q : Nat} {x : X} {nv : Value} (h : BoxX w q x nv) : w.cell? ⟨q, 0, none⟩ = some (.int .i64 x.err) ∧ w.cell? ⟨q, 1, none⟩ = some (.string x.path) ∧ w.cell? ⟨q, 2, none⟩ = some (.string x.data) ∧ w.cell? ⟨q, 4, none⟩ = some (.int .i64 x.made) ∧ w.cell? ⟨q, 5, none⟩ = some (.int .i64 x.changed) ∧ w.cell? ⟨q, 6, none⟩ = some (.int .i64 x.ver) ∧ w.cell? ⟨q, 7, none⟩ = some (.int .i64 x.kids) ∧ w.cell? ⟨q, 8, none⟩ = some (.int .i64 x.owner) ∧ w.cell? ⟨q, 9, none⟩ = some (.int .i64 x.len) ∧ w.cell? ⟨q, 10, none⟩ = some (.int .i64 x.cnt) := ⟨h.c0, h.c1, h.c2, h.c4, h.c5, h.c6, h.c7, h.c8, h.c9, h.c10⟩

/-- A result that is not too great. -/
structure Light (x : X) : Prop where
  path : x.path.size ≤ 300
  data : x.data.size ≤ 300
  count : x.names.length ≤ 40
  texts : ∀ t ∈ x.names, t.size ≤ 100

theorem tbytes_len {ts : List ByteArray} (h : ∀ t ∈ ts, t.size ≤ 100) : (Rq.tbytes ts).length ≤ 108 * ts.length := by
  unfold Rq.tbytes
  induction ts with
  | nil => simp
  | cons t ts ih =>
    have h1 := h t (by simp)
    have h2 := ih (fun x hx => h x (by simp [hx]))
    have h3 : t.data.toList.length = t.size := rfl
    have h4 : (Pk.txt t.data.toList).length = 8 + t.size := by unfold Pk.txt; rw [List.length_append, Pk.be8_len, h3]
    rw [List.flatMap_cons, List.length_append, List.length_cons]
    omega

theorem xbytes_len {x : X} (h : Light x) : (Rq.xbytes x).length ≤ 5010 := by
  have h1 := tbytes_len h.texts
  have h2 := h.count
  have h3 := h.path
  have h4 := h.data
  have e1 : x.path.data.toList.length = x.path.size := rfl
  have e2 : x.data.data.toList.length = x.data.size := rfl
  unfold Rq.xbytes Rq.sbytes Pk.txt
  simp only [List.length_append, Pk.be8_len]
  omega

theorem flatx_len {xs : List X} (h : ∀ x ∈ xs, Light x) : (xs.flatMap Rq.xbytes).length ≤ 5010 * xs.length := by
  induction xs with
  | nil => simp
  | cons x xs ih =>
    have h1 := xbytes_len (h x (by simp))
    have h2 := ih (fun y hy => h y (by simp [hy]))
    rw [List.flatMap_cons, List.length_append, List.length_cons]
    omega

theorem heavy_light {xs : List X} (h : heavyB xs = false) : xs.length ≤ 20 ∧ ∀ x ∈ xs, Light x := by
  unfold heavyB at h
  simp only [Bool.or_eq_false_iff, decide_eq_false_iff_not] at h
  refine ⟨by omega, fun x hx => ?_⟩
  have h2 := List.any_eq_false.1 h.2 x hx
  unfold heavyX longB at h2
  simp only [Bool.not_eq_true, Bool.or_eq_false_iff, decide_eq_false_iff_not, List.any_eq_false, decide_eq_true_eq] at h2
  exact ⟨by omega, by omega, by omega, fun t ht => by have := h2.2 t ht; omega⟩
end Go.Proofs.Ytebmcjhhoionbaa
