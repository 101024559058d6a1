/- Two Ops are held against each other. -/
import Derived.Test.YtjimemnkmpapgaaGreatDoorOps
import Derived.Laws.StructEq
namespace Go.Proofs.YtjimemnkmpapgaaGreatDoor
open Go.RowKit

/-- Are two Ops alike? -/
def sameO (o o' : O) : Bool := (o.kind == o'.kind) && ((o.path.toList == o'.path.toList) && ((o.data.toList == o'.data.toList) && ((o.ver == o'.ver) && (o.flags == o'.flags))))

theorem same_iff (o o' : O) : sameO o o' = true ↔ o = o' := by
  obtain ⟨K, p, d, V, F⟩ := o
  obtain ⟨K', p', d', V', F'⟩ := o'
  unfold sameO
  constructor
  · intro h
    simp only [Bool.and_eq_true, beq_iff_eq] at h
    obtain ⟨rfl, h1, h2, rfl, rfl⟩ := h
    have e1 : p = p' := bytes_eq (by simpa using h1)
    have e2 : d = d' := bytes_eq (by simpa using h2)
    rw [e1, e2]
  · intro h
    cases h
    simp

theorem op_equal (o o' : O) (w : World) : (Op.equalIn 10000 38 (ov o) (ov o')).run Tryz.prog w = .ok (sameO o o') w := by
  unfold ov
  rw [run_equalIn_struct w 9999 _ _ _ (by kernel_rfl) (by kernel_rfl)]
  have hf : (Tryz.prog.fieldsOf 38).toList = [{ name := "Kind", type := 3, offset := 0, embedded := false, tag := "", pkgPath := "", byteOffset := 0 }, { name := "Path", type := 9, offset := 1, embedded := false, tag := "", pkgPath := "", byteOffset := 8 }, { name := "Data", type := 9, offset := 2, embedded := false, tag := "", pkgPath := "", byteOffset := 24 }, { name := "Version", type := 3, offset := 3, embedded := false, tag := "", pkgPath := "", byteOffset := 40 }, { name := "Flags", type := 3, offset := 4, embedded := false, tag := "", pkgPath := "", byteOffset := 48 }] := by kernel_rfl
  rw [hf]
  unfold sameO
  have ui := Tryz.underlying3
  have us := Tryz.underlying9
  simp only [Op.eqFields]
  simp [go_sem, part, ui, us]
  by_cases h1 : o.kind = o'.kind <;> by_cases h2 : o.path.toList = o'.path.toList <;> by_cases h3 : o.data.toList = o'.data.toList <;> by_cases h4 : o.ver = o'.ver <;> by_cases h5 : o.flags = o'.flags <;> simp [h1, h2, h3, h4, h5]

theorem op_neq (o o' : O) (w : World) : (binOp .neq 38 (.agg #[.int .i64 o.kind, .string o.path, .string o.data, .int .i64 o.ver, .int .i64 o.flags]) (.agg #[.int .i64 o'.kind, .string o'.path, .string o'.data, .int .i64 o'.ver, .int .i64 o'.flags])).run Tryz.prog w = .ok (.bool (!sameO o o')) w := by
  have h := op_equal o o' w
  unfold ov at h
  rw [run_neq_struct, h]
  rfl

theorem op_eql (o o' : O) (w : World) : (binOp .eql 38 (.agg #[.int .i64 o.kind, .string o.path, .string o.data, .int .i64 o.ver, .int .i64 o.flags]) (.agg #[.int .i64 o'.kind, .string o'.path, .string o'.data, .int .i64 o'.ver, .int .i64 o'.flags])).run Tryz.prog w = .ok (.bool (sameO o o')) w := by
  have h := op_equal o o' w
  unfold ov at h
  rw [run_eql_struct, h]
  rfl

theorem op_guard (op : BinOp) (x y : Operand) (xs ys : Array Value) (w : World) : (eqGuard op 38 x y (.agg xs) (.agg ys)).run Tryz.prog w = .ok () w := run_eqGuard_agg w op _ x y xs ys (by kernel_rfl)
end Go.Proofs.YtjimemnkmpapgaaGreatDoor
