/- The landed tree does what Specs11 asks. -/
import Derived.Test.YtpidafpaffpnaaaGreatDoorWNd11
import Derived.Test.YtpidafpaffpnaaaGreatDoorWpc
import Derived.Test.YtpidafpaffpnaaaGreatDoorWLoad11
namespace Go.Proofs.YtpidafpaffpnaaaGreatDoor
open Go.RowKit

theorem specs_any11 : Specs11 LTk where
  lt := fun h hk => ltk_lt h hk
  keep := fun h hk => ltk_keep h hk
  new := new_any11
  doo := fun q t F o s z w h hf h6 hS ho => by
    obtain ⟨m, D, P, V, h⟩ := h
    refine (do_any11 o s z h hf h6 hS ho).mono ?_
    rintro e w' ⟨F', u, rfl, h1, h2, h3, h4, _⟩
    exact ⟨F', u, rfl, h1, h2, h3, h4⟩
  tri := fun q t F o s z w h hf _ hS ho => by
    obtain ⟨m, D, P, V, h⟩ := h
    refine (try_any11 o s z h hf hS ho).mono ?_
    rintro e w' ⟨u, rfl, h1, h2, hb⟩
    exact ⟨F, u, rfl, h1, fun _ k hk e => by have := h2 k hk; have := h.glt k e; omega, ⟨m, D, P, V, h.below hb⟩, Moved.of_below F hb⟩
  node := fun q t F p w h hf hp => by
    obtain ⟨m, D, P, V, h⟩ := h
    refine (node_any11 p h hf hp).mono ?_
    rintro e w' ⟨h1, h2, hb⟩
    exact ⟨F, h1, ⟨m, D, P, V, h2⟩, Moved.of_below F hb⟩
  paths := fun q t F w h hf => by
    obtain ⟨m, D, P, V, h⟩ := h
    refine (paths_any11 h hf).mono ?_
    rintro e w' ⟨v, rfl, h1, h2, h3, hb⟩
    exact ⟨F, v, rfl, h1, h2, ⟨m, D, P, V, h3⟩, Moved.of_below F hb⟩
  ofs := fun q t F s w h hf => by
    obtain ⟨m, D, P, V, h⟩ := h
    refine (of_any11 s h hf).mono ?_
    rintro e w' ⟨v, rfl, h1, h2, h3, hb⟩
    exact ⟨F, v, rfl, h1, h2, ⟨m, D, P, V, h3⟩, Moved.of_below F hb⟩
  len := fun q t F w h _ => by
    obtain ⟨m, D, P, V, h⟩ := h
    refine (len_any11 h).mono ?_
    rintro e w' ⟨rfl, rfl⟩
    exact ⟨F, rfl, ⟨m, D, P, V, h⟩, Moved.refl _ _⟩
  load := fun q t F p n u w h hf h6 hS hs ho hn hl hd hp => by
    obtain ⟨m, D, P, V, h⟩ := h
    exact load_any11 p n u h hf hS hs hn hl hd hp
  copy := fun q t F w h hf => by
    obtain ⟨m, D, P, V, h⟩ := h
    exact copy_any11 h hf
end Go.Proofs.YtpidafpaffpnaaaGreatDoor
