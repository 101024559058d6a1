/- Events that a statement holds while the watches change. -/
import Derived.Test.YtjejpkognjedpaaDoorLAwake13
namespace Go.Proofs.YtjejpkognjedpaaDoor
open Go.RowKit

structure Ek (w : World) (F : Nat → Prop) (v : Value) (es : List Hq.Wt) : Prop where
  ev : Ev w v es
  off : es ≠ [] → ∀ k, v.ownBlock = some k → ¬ F k
theorem Ek.moved {w w' : World} {F F' : Nat → Prop} {v : Value} {es : List Hq.Wt} (h : Ek w F v es) (hm : Moved w w' F F') : Ek w' F' v es := by
  by_cases hne : es = []
  · subst hne
    obtain ⟨av, k, c, rfl, hj, hc, hn, hs⟩ := h.ev
    exact ⟨⟨av, k, c, rfl, hj, hc, hn, fun j x hx => by simp at hx⟩, fun e => absurd rfl e⟩
  · refine ⟨h.ev.keep fun k hk hl => hm.block k hl (h.off hne k hk), fun _ k hk e => ?_⟩
    rcases hm.sub k e with e | e
    · exact h.off hne k hk e
    · have := h.ev.lt hne hk
      omega
theorem Ek.later {w w' : World} {F : Nat → Prop} {v : Value} {es : List Hq.Wt} (h : Ek w F v es) (hb : Below w.heap.size w w') : Ek w' F v es := h.moved (Moved.of_below F hb)
theorem Ek.of {w' : World} {n : Nat} {F' : Nat → Prop} {v : Value} {es : List Hq.Wt} (h : Ev w' v es) (hv : ∀ k, v.ownBlock = some k → n ≤ k ∧ ¬ F' k) : Ek w' F' v es := ⟨h, fun _ k hk => (hv k hk).2⟩
/-- No events at all. -/
theorem Ev.nothing {w : World} {v : Value} (h : Ev w v []) : ∃ a c, v = .slice a 0 c := by
  obtain ⟨av, k, c, rfl, hj, _⟩ := h
  obtain rfl : k = 0 := hj
  exact ⟨_, _, rfl⟩
/-- One event. -/
theorem Ev.one {w : World} {v : Value} {x : Hq.Wt} (h : Ev w v [x]) : ∃ g b c, v = .slice (some ⟨g, b, none⟩) 1 c ∧ w.cell? ⟨g, b, none⟩ = some (.int .i64 x.sess) ∧ w.cell? ⟨g, b + 1, none⟩ = some (.string x.path) ∧ w.cell? ⟨g, b + 2, none⟩ = some (.int .i64 x.kind) := by
  obtain ⟨g, b, c, rfl, _, hcs⟩ := h.at (by simp)
  obtain ⟨e0, e1, e2⟩ := hcs 0 _ rfl
  simp only [Nat.zero_mul, Nat.add_zero] at e0 e1 e2
  exact ⟨g, b, c, rfl, e0, e1, e2⟩
end Go.Proofs.YtjejpkognjedpaaDoor
