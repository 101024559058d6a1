/- Results and lists of them, wherever they lie; what the statements' own 'heavy' answers. -/
import Derived.Test.YtjimemnkmpapgaaGreatDoorBase
import Derived.Test.YtjimemnkmpapgaaGreatDoorPl19
import Derived.BigRegion
import Derived.Deep.QuietTactic
import Derived.BigQuiet
import Derived.Deep.RegionWith
namespace Go.Proofs.YtjimemnkmpapgaaGreatDoor
open Go.RowKit

/-- A result's cells; its Names lie elsewhere. -/
def xc (x : X) (nv : Value) : List Value := [.int .i64 x.err, .string x.path, .string x.data, nv, .int .i64 x.made, .int .i64 x.changed, .int .i64 x.ver, .int .i64 x.kids, .int .i64 x.owner, .int .i64 x.len, .int .i64 x.cnt]

/-- A value is a slice of texts, with what room it has. -/
def Sq (w : World) (u : Value) (ss : List ByteArray) : Prop := ∃ av k c, u = .slice av k c ∧ k = ss.length ∧ k ≤ c ∧ (av = none → c = 0) ∧ ∀ (j : Nat) s, ss[j]? = some s → ∃ g o, av = some ⟨g, o, none⟩ ∧ w.cell? ⟨g, o + j, none⟩ = some (.string s)

theorem Sq.below {w w' : World} {v : Value} {ss : List ByteArray} (h : Sq w v ss) (hb : Below w.heap.size w w') : Sq w' v ss := by
  obtain ⟨av, k, c, hv, hk, hc, hn, hs⟩ := h
  refine ⟨av, k, c, hv, hk, hc, hn, fun j s hs2 => ?_⟩
  obtain ⟨g, o, ha, hcell⟩ := hs j s hs2
  exact ⟨g, o, ha, Below.kept hb hcell⟩

theorem Sq.ss {w : World} {v : Value} {ss : List ByteArray} (h : Sq w v ss) : Ss w v ss := by
  obtain ⟨av, k, c, hv, hk, _, _, hs⟩ := h
  exact ⟨av, k, c, hv, hk, hs⟩

theorem Sq.nil (w : World) : Sq w (.slice none 0 0) [] := ⟨_, _, _, rfl, rfl, Nat.le_refl _, fun _ => rfl, fun j s hs => by simp at hs⟩

/-- Texts that are there lie at a plain address. -/
theorem Sq.at {w : World} {v : Value} {ss : List ByteArray} (h : Sq w v ss) (h0 : 0 < ss.length) : ∃ g o c, v = .slice (some ⟨g, o, none⟩) ss.length c ∧ ss.length ≤ c ∧ ∀ (j : Nat) s, ss[j]? = some s → w.cell? ⟨g, o + j, none⟩ = some (.string s) := by
  obtain ⟨av, k, c, rfl, hk, hkc, hn, hc⟩ := h
  obtain ⟨g, o, rfl, _⟩ := hc 0 ss[0] (List.getElem?_eq_getElem h0)
  refine ⟨g, o, c, by rw [hk], by omega, fun j s hs => ?_⟩
  obtain ⟨g', o', e, h1⟩ := hc j s hs
  simp only [Option.some.injEq, Addr.mk.injEq, and_true] at e
  obtain ⟨rfl, rfl⟩ := e
  exact h1

/-- A value is a slice of results. -/
def Rl (w : World) (v : Value) (xs : List X) : Prop := ∃ av k c, v = .slice av k c ∧ k = xs.length ∧ k ≤ c ∧ (av = none → c = 0) ∧ ∀ (j : Nat) x, xs[j]? = some x → ∃ g b nv, av = some ⟨g, b, none⟩ ∧ Sq w nv x.names ∧ ∀ (i : Nat) u, (xc x nv)[i]? = some u → w.cell? ⟨g, b + (j * 11 + i), none⟩ = some u

theorem Rl.below {w w' : World} {v : Value} {xs : List X} (h : Rl w v xs) (hb : Below w.heap.size w w') : Rl w' v xs := by
  obtain ⟨av, k, c, hv, hk, hc, hn, hs⟩ := h
  refine ⟨av, k, c, hv, hk, hc, hn, fun j x hx => ?_⟩
  obtain ⟨g, b, nv, ha, hnv, hcell⟩ := hs j x hx
  exact ⟨g, b, nv, ha, hnv.below hb, fun i u hu => Below.kept hb (hcell i u hu)⟩

theorem Rl.nil (w : World) : Rl w (.slice none 0 0) [] := ⟨_, _, _, rfl, rfl, Nat.le_refl _, fun _ => rfl, fun j s hs => by simp at hs⟩

/-- The eleven cells of a result at a place. -/
structure At11 (w : World) (g b : Nat) (x : X) (nv : Value) : Prop where
  c0 : w.cell? ⟨g, b, none⟩ = some (.int .i64 x.err)
  c1 : w.cell? ⟨g, b + 1, none⟩ = some (.string x.path)
  c2 : w.cell? ⟨g, b + 2, none⟩ = some (.string x.data)
  c3 : w.cell? ⟨g, b + 3, none⟩ = some nv
  c4 : w.cell? ⟨g, b + 4, none⟩ = some (.int .i64 x.made)
  c5 : w.cell? ⟨g, b + 5, none⟩ = some (.int .i64 x.changed)
  c6 : w.cell? ⟨g, b + 6, none⟩ = some (.int .i64 x.ver)
  c7 : w.cell? ⟨g, b + 7, none⟩ = some (.int .i64 x.kids)
  c8 : w.cell? ⟨g, b + 8, none⟩ = some (.int .i64 x.owner)
  c9 : w.cell? ⟨g, b + 9, none⟩ = some (.int .i64 x.len)
  c10 : w.cell? ⟨g, b + 10, none⟩ = some (.int .i64 x.cnt)

theorem At11.of {w : World} {g b : Nat} {x : X} {nv : Value} (h : ∀ (i : Nat) u, (xc x nv)[i]? = some u → w.cell? ⟨g, b + i, none⟩ = some u) : At11 w g b x nv :=
  ⟨h 0 _ rfl, h 1 _ rfl, h 2 _ rfl, h 3 _ rfl, h 4 _ rfl, h 5 _ rfl, h 6 _ rfl, h 7 _ rfl, h 8 _ rfl, h 9 _ rfl, h 10 _ rfl⟩

theorem At11.below {w w' : World} {g b : Nat} {x : X} {nv : Value} (h : At11 w g b x nv) (hb : Below w.heap.size w w') : At11 w' g b x nv :=
  ⟨Below.kept hb h.c0, Below.kept hb h.c1, Below.kept hb h.c2, Below.kept hb h.c3, Below.kept hb h.c4, Below.kept hb h.c5, Below.kept hb h.c6, Below.kept hb h.c7, Below.kept hb h.c8, Below.kept hb h.c9, Below.kept hb h.c10⟩

theorem Rl.at {w : World} {v : Value} {xs : List X} (h : Rl w v xs) (h0 : 0 < xs.length) : ∃ g b c, v = .slice (some ⟨g, b, none⟩) xs.length c ∧ xs.length ≤ c ∧ ∀ (j : Nat) x, xs[j]? = some x → ∃ nv, Sq w nv x.names ∧ At11 w g (b + j * 11) x nv := by
  obtain ⟨av, k, c, rfl, hk, hc, hn, hs⟩ := h
  obtain ⟨g, b, nv, rfl, _⟩ := hs 0 xs[0] (List.getElem?_eq_getElem h0)
  refine ⟨g, b, c, by rw [hk], by omega, fun j x hx => ?_⟩
  obtain ⟨g', b', nv', e, hnv, hcell⟩ := hs j x hx
  simp only [Option.some.injEq, Addr.mk.injEq, and_true] at e
  obtain ⟨rfl, rfl⟩ := e
  exact ⟨nv', hnv, At11.of fun i u hu => by have := hcell i u hu; rw [← Nat.add_assoc] at this; exact this⟩

/-- Is one text too long? -/
def longB (ts : List ByteArray) : Bool := ts.any fun t => decide (100 < t.size)
/-- Is a result more than is asked of? -/
def heavyX (x : X) : Bool := decide (300 < x.path.size) || decide (300 < x.data.size) || decide (40 < x.names.length) || longB x.names
/-- Is a list of results? -/
def heavyB (xs : List X) : Bool := decide (20 < xs.length) || xs.any heavyX

end Go.Proofs.YtjimemnkmpapgaaGreatDoor
