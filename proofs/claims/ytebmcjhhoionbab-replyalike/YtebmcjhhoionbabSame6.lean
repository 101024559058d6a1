/- Results and replies held against each other: what an equality of Stats answers. -/
import Derived.Test.YtebmcjhhoionbabBox6
import Derived.Laws.StructEq
namespace Go.Proofs.Ytebmcjhhoionbab
open Go.RowKit

/-- Are two Stats alike? -/
def sameS (x y : X) : Bool := (x.made == y.made) && ((x.changed == y.changed) && ((x.ver == y.ver) && ((x.kids == y.kids) && ((x.owner == y.owner) && ((x.len == y.len) && (x.cnt == y.cnt))))))
/-- A Stat as a value. -/
def sv (x : X) : Value := .agg #[.int .i64 x.made, .int .i64 x.changed, .int .i64 x.ver, .int .i64 x.kids, .int .i64 x.owner, .int .i64 x.len, .int .i64 x.cnt]

theorem stat_equal (x y : X) (w : World) : (Op.equalIn 10000 26 (sv x) (sv y)).run Try.prog w = .ok (sameS x y) w := by
  unfold sv
  rw [run_equalIn_struct w 9999 _ _ _ (by kernel_rfl) (by kernel_rfl)]
  have hf : (Try.prog.fieldsOf 26).toList = [{ name := "Made", type := 2, offset := 0, embedded := false, tag := "", pkgPath := "", byteOffset := 0 }, { name := "Changed", type := 2, offset := 1, embedded := false, tag := "", pkgPath := "", byteOffset := 8 }, { name := "Version", type := 3, offset := 2, embedded := false, tag := "", pkgPath := "", byteOffset := 16 }, { name := "Kids", type := 3, offset := 3, embedded := false, tag := "", pkgPath := "", byteOffset := 24 }, { name := "Owner", type := 2, offset := 4, embedded := false, tag := "", pkgPath := "", byteOffset := 32 }, { name := "Length", type := 3, offset := 5, embedded := false, tag := "", pkgPath := "", byteOffset := 40 }, { name := "Count", type := 3, offset := 6, embedded := false, tag := "", pkgPath := "", byteOffset := 48 }] := by kernel_rfl
  rw [hf]
  unfold sameS
  have ui := Try.underlying3
  have ul := Try.underlying2
  simp only [Op.eqFields]
  simp [go_sem, part, ui, ul]
  by_cases h1 : x.made = y.made <;> by_cases h2 : x.changed = y.changed <;> by_cases h3 : x.ver = y.ver <;> by_cases h4 : x.kids = y.kids <;> by_cases h5 : x.owner = y.owner <;> by_cases h6 : x.len = y.len <;> by_cases h7 : x.cnt = y.cnt <;> simp [h1, h2, h3, h4, h5, h6, h7]

theorem stat_eql (x y : X) (w : World) : (binOp .eql 26 (.agg #[.int .i64 x.made, .int .i64 x.changed, .int .i64 x.ver, .int .i64 x.kids, .int .i64 x.owner, .int .i64 x.len, .int .i64 x.cnt]) (.agg #[.int .i64 y.made, .int .i64 y.changed, .int .i64 y.ver, .int .i64 y.kids, .int .i64 y.owner, .int .i64 y.len, .int .i64 y.cnt])).run Try.prog w = .ok (.bool (sameS x y)) w := by
  have h := stat_equal x y w
  unfold sv at h
  rw [run_eql_struct, h]
  rfl

theorem stat_guard (op : BinOp) (a b : Operand) (xs ys : Array Value) (w : World) : (eqGuard op 26 a b (.agg xs) (.agg ys)).run Try.prog w = .ok () w := run_eqGuard_agg w op _ a b xs ys (by kernel_rfl)

theorem x_ext {x y : X} (h1 : x.err = y.err) (h2 : x.path.toList = y.path.toList) (h3 : x.data.toList = y.data.toList) (h4 : x.names = y.names) (h5 : sameS x y = true) : x = y := by
  obtain ⟨a1, a2, a3, a4, a5, a6, a7, a8, a9, a10, a11⟩ := x
  obtain ⟨b1, b2, b3, b4, b5, b6, b7, b8, b9, b10, b11⟩ := y
  unfold sameS at h5
  simp only [Bool.and_eq_true, beq_iff_eq] at h1 h2 h3 h4 h5
  have e2 : a2 = b2 := bytes_eq (by simpa using h2)
  have e3 : a3 = b3 := bytes_eq (by simpa using h3)
  obtain ⟨c1, c2, c3, c4, c5, c6, c7⟩ := h5
  rw [h1, e2, e3, h4, c1, c2, c3, c4, c5, c6, c7]

theorem sameS_refl (x : X) : sameS x x = true := by simp [sameS]

theorem At11.all {w : World} {g b : Nat} {x : X} {nv : Value} (h : At11 w g b x nv) : w.cell? ⟨g, b, none⟩ = some (.int .i64 x.err) ∧ w.cell? ⟨g, b + 1, none⟩ = some (.string x.path) ∧ w.cell? ⟨g, b + 2, none⟩ = some (.string x.data) ∧ w.cell? ⟨g, b + 3, none⟩ = some (nv) ∧ w.cell? ⟨g, b + 4, none⟩ = some (.int .i64 x.made) ∧ w.cell? ⟨g, b + 5, none⟩ = some (.int .i64 x.changed) ∧ w.cell? ⟨g, b + 6, none⟩ = some (.int .i64 x.ver) ∧ w.cell? ⟨g, b + 7, none⟩ = some (.int .i64 x.kids) ∧ w.cell? ⟨g, b + 8, none⟩ = some (.int .i64 x.owner) ∧ w.cell? ⟨g, b + 9, none⟩ = some (.int .i64 x.len) ∧ w.cell? ⟨g, b + 10, none⟩ = some (.int .i64 x.cnt) := ⟨h.c0, h.c1, h.c2, h.c3, h.c4, h.c5, h.c6, h.c7, h.c8, h.c9, h.c10⟩

/-- Lists of Names that are not too long. -/
def Few (xs : List X) : Prop := ∀ x ∈ xs, x.names.length ≤ 1000

theorem r_ext {r q : Rp} (h1 : r.num = q.num) (h2 : r.zxid = q.zxid) (h3 : r.err = q.err) (h4 : r.at_ = q.at_) (h5 : r.xs = q.xs) : r = q := by
  obtain ⟨a1, a2, a3, a4, a5⟩ := r
  obtain ⟨b1, b2, b3, b4, b5⟩ := q
  simp only [] at h1 h2 h3 h4 h5
  rw [h1, h2, h3, h4, h5]
end Go.Proofs.Ytebmcjhhoionbab
