/- What the landed tree's Of and Drop answer. The landed tree does what Specs11 asks. The landed tree's Do answers names in blocks of its own. What part's calls are asked to answer: it is what the landed share does. -/
import Derived.Test.YtboejbjobjhajaaGreatDoorWp2
import Derived.Test.YtboejbjobjhajaaGreatDoorWt2
import Derived.Test.YtboejbjobjhajaaGreatDoorWpc
import Derived.Test.YtboejbjobjhajaaGreatDoorRes12
import Derived.Test.YtboejbjobjhajaaGreatDoorWn18
import Derived.Test.YtboejbjobjhajaaGreatDoorLw7
namespace Go.Proofs.YtboejbjobjhajaaGreatDoor
open Go.RowKit
theorem specp_any12 : SpecP12 LTk where
  ofo := fun q t F s w h hf => by
    obtain ⟨m, D, P, V, h⟩ := h
    refine (of_own12 s h hf).mono ?_
    rintro e w' ⟨v, rfl, h1, h2, hb⟩
    exact ⟨v, rfl, h1, ⟨m, D, P, V, h2⟩, hb⟩
  drop := fun q t F p w h hf h6 hS hg => by
    obtain ⟨m, D, P, V, h⟩ := h
    cases hn : Tq.find t.l p with
    | none =>
      refine (drop_no11 p h (good_max hg) hn).mono ?_
      rintro e w' ⟨rfl, hb⟩
      exact ⟨false, F, rfl, by unfold Tq.dropT; rw [hn]; exact ⟨m, D, P, V, h.below hb⟩, Moved.of_below F hb⟩
    | some n =>
      refine (drop_yes11 p n h hf h6 hS hg hn).mono ?_
      rintro e w' ⟨rfl, G', h1, h2⟩
      exact ⟨true, G', rfl, by unfold Tq.dropT; rw [hn]; exact h1, h2⟩
end Go.Proofs.YtboejbjobjhajaaGreatDoor
namespace Go.Proofs.YtboejbjobjhajaaGreatDoor
open Go.RowKit

theorem specs_any11 : Specs11 LTk where
  lt := fun h hk => ltk_lt h hk
  keep := fun h hk => ltk_keep h hk
  new := new_any11
  doo := fun q t F o s z w h hf h6 hS ho => by
    obtain ⟨m, D, P, V, h⟩ := h
    refine (do_any11 o s z h hf h6 hS ho).mono ?_
    rintro e w' ⟨F', u, rfl, h1, h2, h3, h4, _⟩
    exact ⟨F', u, rfl, h1, h2, h3, h4⟩
  tri := fun q t F o s z w h hf _ hS ho => by
    obtain ⟨m, D, P, V, h⟩ := h
    refine (try_any11 o s z h hf hS ho).mono ?_
    rintro e w' ⟨u, rfl, h1, h2, hb⟩
    exact ⟨F, u, rfl, h1, fun _ k hk e => by have := h2 k hk; have := h.glt k e; omega, ⟨m, D, P, V, h.below hb⟩, Moved.of_below F hb⟩
  node := fun q t F p w h hf hp => by
    obtain ⟨m, D, P, V, h⟩ := h
    refine (node_any11 p h hf hp).mono ?_
    rintro e w' ⟨h1, h2, hb⟩
    exact ⟨F, h1, ⟨m, D, P, V, h2⟩, Moved.of_below F hb⟩
  paths := fun q t F w h hf => by
    obtain ⟨m, D, P, V, h⟩ := h
    refine (paths_any11 h hf).mono ?_
    rintro e w' ⟨v, rfl, h1, h2, h3, hb⟩
    exact ⟨F, v, rfl, h1, h2, ⟨m, D, P, V, h3⟩, Moved.of_below F hb⟩
  ofs := fun q t F s w h hf => by
    obtain ⟨m, D, P, V, h⟩ := h
    refine (of_any11 s h hf).mono ?_
    rintro e w' ⟨v, rfl, h1, h2, h3, hb⟩
    exact ⟨F, v, rfl, h1, h2, ⟨m, D, P, V, h3⟩, Moved.of_below F hb⟩
  len := fun q t F w h _ => by
    obtain ⟨m, D, P, V, h⟩ := h
    refine (len_any11 h).mono ?_
    rintro e w' ⟨rfl, rfl⟩
    exact ⟨F, rfl, ⟨m, D, P, V, h⟩, Moved.refl _ _⟩
  copy := fun q t F w h hf => by
    obtain ⟨m, D, P, V, h⟩ := h
    exact copy_any11 h hf
end Go.Proofs.YtboejbjobjhajaaGreatDoor
namespace Go.Proofs.YtboejbjobjhajaaGreatDoor
open Go.RowKit
theorem specd_any12 : SpecD12 LTk where
  doo := fun q t F o s z w h hf h6 hS ho => by
    obtain ⟨m, D, P, V, h⟩ := h
    refine (do_any11 o s z h hf h6 hS ho).mono ?_
    rintro e w' ⟨F', u, rfl, h1, h2, h3, h4, h5⟩
    exact ⟨F', u, rfl, h1, h2, h5, h3, h4⟩
end Go.Proofs.YtboejbjobjhajaaGreatDoor
namespace Go.Proofs.YtboejbjobjhajaaGreatDoor
open Go.RowKit
theorem base_any18 : Base18 LTk LLk where
  t := specs_any11
  d := specd_any12
  p := specp_any12
  q := ⟨fun q t F w h => by
    obtain ⟨m, D, P, V, h⟩ := h
    exact (len_any11 h).mono fun e w' he => ⟨he.1, by rw [he.2]; exact Below.refl _ _⟩⟩
  l := specs_any17
theorem specs_any18 : Specs18 LTk (LPt18 LTk LLk) where
  lt := fun h hk => lpt_lt18 h hk
  keep := fun h hk => lpt_keep18 specs_any11 specs_any17 h hk
  new := new_any18 base_any18
  loc := fun q s F m z n v os w h hf hm h6 hS hv hok hl hz => loc_any18 base_any18 h hf hm h6 hS z n v os hv hok hl hz
  prep := fun q s F m id z v os w h hf hm h6 hS hv hok hl hi hz => prep_any18 base_any18 h hf hm h6 hS v os hv hok hl id z hi hz
  clo := fun q s F m id z w h hf hm h6 hS hi hz => clo_any18 base_any18 h hf hm h6 hS id z hi hz
  dec := fun q s F m id c w h hf hm h6 hS hi => dec_any18 base_any18 h hf hm h6 hS id c hi
  waiting := fun q s F m w h hf hm => waiting_any18 h hf (by omega)
  closed := fun q s F m z w h hf hz => by
    obtain ⟨fw, fd, fs, qt, ql, a, b, c, Ft, Fl, G, V, h, _, _, h3⟩ := h
    exact (closed_any18 h h3 z hz).mono fun e w' he => ⟨he.1, by rw [he.2]; exact Below.refl _ _⟩
  zxid := fun q s F w h => by
    obtain ⟨fw, fd, fs, qt, ql, a, b, c, Ft, Fl, G, V, h, _⟩ := h
    exact (zxid_any18 h).mono fun e w' he => ⟨he.1, by rw [he.2]; exact Below.refl _ _⟩
  tree := fun q s F m w h hf => by
    obtain ⟨fw, fd, fs, qt, ql, a, b, c, Ft, Fl, G, V, h, _⟩ := h
    exact tree_any18 specs_any11 h hf.well.fine
  locks := fun q s F m w h hf hm => by
    obtain ⟨fw, fd, fs, qt, ql, a, b, c, Ft, Fl, G, V, h, _⟩ := h
    exact locks_any18 specs_any17 h hf.lk (by omega)
  wanted := fun q s F w h => by
    obtain ⟨fw, fd, fs, qt, ql, a, b, c, Ft, Fl, G, V, h, _⟩ := h
    exact (wanted_any18 h).mono fun e w' he => ⟨he.1, by rw [he.2]; exact Below.refl _ _⟩
end Go.Proofs.YtboejbjobjhajaaGreatDoor
