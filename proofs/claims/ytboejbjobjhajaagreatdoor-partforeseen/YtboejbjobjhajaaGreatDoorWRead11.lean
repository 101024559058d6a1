import Derived.Test.YtboejbjobjhajaaGreatDoorRtr
import Derived.Test.YtboejbjobjhajaaGreatDoorWs18
namespace Go.Proofs.YtboejbjobjhajaaGreatDoor
open Go.RowKit
theorem TkU.wide {w : World} {q m : Nat} {t : Tq.Tr} {G : Nat → Prop} {D : DataW Nat} {P : ByteArray → Nat} {V : ByteArray → Value} (h : TkU w q t G m D P V) : TkU w q t (fun k => k < w.heap.size) m D P V :=
  ⟨h.blk, h.own, h.sz, h.has, h.at_, h.node, h.apart, h.glt _ h.gq, h.glt _ h.gm, fun e he => ⟨h.glt _ (h.gf e he).1, fun k hk => h.glt _ ((h.gf e he).2 k hk)⟩, fun _ hk => hk⟩
theorem specR_any11 : SpecR11 LTk where
  node := fun q t F p w h hf hp => by
    obtain ⟨m, D, P, V, h⟩ := h
    refine (node_any11 p h.wide hf hp).mono ?_
    rintro e w' ⟨h1, _, hb⟩
    exact ⟨h1, hb⟩
  paths := fun q t F w h hf => by
    obtain ⟨m, D, P, V, h⟩ := h
    refine (paths_any11 h.wide hf).mono ?_
    rintro e w' ⟨v, rfl, h1, h2, _, hb⟩
    exact ⟨v, rfl, h1, h2, hb⟩
end Go.Proofs.YtboejbjobjhajaaGreatDoor
