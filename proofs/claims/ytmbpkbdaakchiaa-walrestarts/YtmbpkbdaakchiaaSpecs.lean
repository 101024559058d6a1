/- What Put and Scan are asked to answer (proved of the landed code in WPut and WScan); what the statements' own 'all' answers. -/
import Derived.Test.YtmbpkbdaakchiaaPlainG
import Derived.Test.YtmbpkbdaakchiaaRows2
import Derived.Lib.SlBytesConst
import Derived.BigRegion
import Derived.Deep.QuietTactic
import Derived.BigQuiet
import Derived.Deep.RegionWith
namespace Go.Proofs.Ytmbpkbdaakchiaa
open Go.RowKit

/-- Put, of a record that is not too long. -/
def PutSpec : Prop := ∀ (v u : Value) (xs r : List UInt8) (w : World), Bs w v xs → Bs w u r → xs.length ≤ 100000 → r.length ≤ 20000 →
  Calls Try.prog 28 #[v, u] w fun e w' => ∃ v', e = .returned (.tuple #[v', .int .i64 0]) ∧ w'.ownsRow w.heap.size 5 1 v' (xs.length + (12 + r.length)) (bc (xs ++ Fr.frame r)) ∧ Below w.heap.size w w'
/-- Put, of a record that is too long. -/
def LongSpec : Prop := ∀ (v u : Value) (xs r : List UInt8) (w : World), Bs w v xs → Bs w u r → 20000 < r.length → r.length ≤ maxLen →
  Calls Try.prog 28 #[v, u] w fun e w' => ∃ v', e = .returned (.tuple #[v', .int .i64 2]) ∧ Below w.heap.size w w'
/-- Where there is no address there is no room. -/
def Nz (v : Value) : Prop := ∀ k c, v = .slice none k c → k = 0 ∧ c = 0
/-- Scan. -/
def ScanSpec : Prop := ∀ (v : Value) (xs : List UInt8) (w : World), Bs w v xs → xs.length ≤ 100000 →
  Calls Try.prog 24 #[v] w fun e w' => ∃ l, e = .returned (.tuple #[l, .int .i64 ((Fr.scan xs).2.1 : Int), .int .i64 ((Fr.scan xs).2.2 : Int)]) ∧ Bl w' l (Fr.scan xs).1 ∧ Nz l ∧ Below w.heap.size w w'

/-- A part of a list of rows. -/
theorem Bl.at {w : World} {v : Value} {ls : List (List UInt8)} (h : Bl w v ls) (h0 : 0 < ls.length) : ∃ g o c, v = .slice (some ⟨g, o, none⟩) ls.length c ∧ ∀ (j : Nat) xs, ls[j]? = some xs → ∃ u, w.cell? ⟨g, o + j, none⟩ = some u ∧ Bs w u xs := by
  obtain ⟨av, k, c, rfl, hk, hc⟩ := h
  obtain ⟨g, o, u, rfl, _, _⟩ := hc 0 ls[0] (List.getElem?_eq_getElem h0)
  refine ⟨g, o, c, by rw [hk], fun j xs hx => ?_⟩
  obtain ⟨g', o', u', e, h1, h2⟩ := hc j xs hx
  simp only [Option.some.injEq, Addr.mk.injEq, and_true] at e
  obtain ⟨rfl, rfl⟩ := e
  exact ⟨u', h1, h2⟩

theorem eq_of_take {α : Type} {a b : List α} (hl : a.length = b.length) (h : ∀ j : Nat, j < a.length → a[j]? = b[j]?) : a = b := by
  apply List.ext_getElem?
  intro j
  by_cases hj : j < a.length
  · exact h j hj
  · rw [List.getElem?_eq_none (by omega), List.getElem?_eq_none (by omega)]

end Go.Proofs.Ytmbpkbdaakchiaa
