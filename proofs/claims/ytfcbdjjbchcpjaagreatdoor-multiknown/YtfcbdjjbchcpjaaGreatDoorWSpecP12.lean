/- What the landed tree's Of and Drop answer. -/
import Derived.Test.YtfcbdjjbchcpjaaGreatDoorWPurge12
import Derived.Test.YtfcbdjjbchcpjaaGreatDoorWOfO12
import Derived.Test.YtfcbdjjbchcpjaaGreatDoorWDrop11
namespace Go.Proofs.YtfcbdjjbchcpjaaGreatDoor
open Go.RowKit
theorem specp_any12 : SpecP12 LTk where
  ofo := fun q t F s w h hf => by
    obtain ⟨m, D, P, V, h⟩ := h
    refine (of_own12 s h hf).mono ?_
    rintro e w' ⟨v, rfl, h1, h2, hb⟩
    exact ⟨v, rfl, h1, ⟨m, D, P, V, h2⟩, hb⟩
  drop := fun q t F p w h hf h6 hS hg => by
    obtain ⟨m, D, P, V, h⟩ := h
    cases hn : Tq.find t.l p with
    | none =>
      refine (drop_no11 p h (good_max hg) hn).mono ?_
      rintro e w' ⟨rfl, hb⟩
      exact ⟨false, F, rfl, by unfold Tq.dropT; rw [hn]; exact ⟨m, D, P, V, h.below hb⟩, Moved.of_below F hb⟩
    | some n =>
      refine (drop_yes11 p n h hf h6 hS hg hn).mono ?_
      rintro e w' ⟨rfl, G', h1, h2⟩
      exact ⟨true, G', rfl, by unfold Tq.dropT; rw [hn]; exact h1, h2⟩
end Go.Proofs.YtfcbdjjbchcpjaaGreatDoor
