/- Ops and lists of Ops, wherever they lie. -/
import Derived.Test.YtjimemnkmpapgaaGreatDoorBase
import Derived.BigRegion
import Derived.Deep.QuietTactic
import Derived.BigQuiet
import Derived.Deep.RegionWith
namespace Go.Proofs.YtjimemnkmpapgaaGreatDoor
open Go.RowKit

/-- What is asked of one path. -/
structure O where
  kind : Int
  path : ByteArray
  data : ByteArray
  ver : Int
  flags : Int

/-- Its cells, and it as a value. -/
def oc (o : O) : List Value := [.int .i64 o.kind, .string o.path, .string o.data, .int .i64 o.ver, .int .i64 o.flags]
def ov (o : O) : Value := .agg #[.int .i64 o.kind, .string o.path, .string o.data, .int .i64 o.ver, .int .i64 o.flags]

/-- A value is a slice of Ops. -/
def Ol (w : World) (v : Value) (os : List O) : Prop := ∃ av k c, v = .slice av k c ∧ k = os.length ∧ k ≤ c ∧ (av = none → c = 0) ∧ ∀ (j : Nat) o, os[j]? = some o → ∃ g b, av = some ⟨g, b, none⟩ ∧ ∀ (i : Nat) u, (oc o)[i]? = some u → w.cell? ⟨g, b + (j * 5 + i), none⟩ = some u

theorem Ol.below {w w' : World} {v : Value} {os : List O} (h : Ol w v os) (hb : Below w.heap.size w w') : Ol w' v os := by
  obtain ⟨av, k, c, hv, hk, hc, hn, hs⟩ := h
  refine ⟨av, k, c, hv, hk, hc, hn, fun j o ho => ?_⟩
  obtain ⟨g, b, ha, hcell⟩ := hs j o ho
  exact ⟨g, b, ha, fun i u hu => Below.kept hb (hcell i u hu)⟩

/-- The cells of an Op in a list. -/
theorem Ol.at {w : World} {v : Value} {os : List O} (h : Ol w v os) (h0 : 0 < os.length) : ∃ g b c, v = .slice (some ⟨g, b, none⟩) os.length c ∧ ∀ (j : Nat) o, os[j]? = some o →
    w.cell? ⟨g, b + j * 5, none⟩ = some (.int .i64 o.kind) ∧ w.cell? ⟨g, b + j * 5 + 1, none⟩ = some (.string o.path) ∧ w.cell? ⟨g, b + j * 5 + 2, none⟩ = some (.string o.data) ∧ w.cell? ⟨g, b + j * 5 + 3, none⟩ = some (.int .i64 o.ver) ∧ w.cell? ⟨g, b + j * 5 + 4, none⟩ = some (.int .i64 o.flags) := by
  obtain ⟨av, k, c, rfl, hk, hc, hn, hs⟩ := h
  obtain ⟨g, b, rfl, _⟩ := hs 0 os[0] (List.getElem?_eq_getElem h0)
  refine ⟨g, b, c, by rw [hk], fun j o ho => ?_⟩
  obtain ⟨g', b', e, hcell⟩ := hs j o ho
  simp only [Option.some.injEq, Addr.mk.injEq, and_true] at e
  obtain ⟨rfl, rfl⟩ := e
  exact ⟨hcell 0 _ rfl, hcell 1 _ rfl, hcell 2 _ rfl, hcell 3 _ rfl, hcell 4 _ rfl⟩

/-- Is a list of Ops more than is asked of? -/
def greatB (os : List O) : Bool := decide (20 < os.length) || os.any fun o => decide (300 < o.path.size) || decide (1100 < o.data.size)

end Go.Proofs.YtjimemnkmpapgaaGreatDoor
