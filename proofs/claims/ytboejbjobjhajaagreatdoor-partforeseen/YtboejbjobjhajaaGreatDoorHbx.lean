import Derived.Test.YtboejbjobjhajaaGreatDoorLa1
import Derived.Test.YtboejbjobjhajaaGreatDoorPln
import Derived.Test.YtboejbjobjhajaaGreatDoorLibQ
namespace Go.Proofs.YtboejbjobjhajaaGreatDoor
open Go.RowKit
structure Sm (w : World) (F : Nat → Prop) (v : Value) (l : List ByteArray) : Prop where
  ss : Ss w v l
  off : l ≠ [] → Off11 F v
theorem Sm.moved {w w' : World} {F F' : Nat → Prop} {v : Value} {l : List ByteArray} (h : Sm w F v l) (hm : Moved w w' F F') : Sm w' F' v l := by
  obtain ⟨av, k, c, rfl, hk, hc⟩ := h.ss
  have hblk : ∀ (j : Nat) s, l[j]? = some s → ∃ g o, av = some ⟨g, o, none⟩ ∧ w.cell? ⟨g, o + j, none⟩ = some (.string s) ∧ g < w.heap.size ∧ ¬ F g := fun j s hs => by
    obtain ⟨g, o, e, h1⟩ := hc j s hs
    have hne : l ≠ [] := fun e2 => by rw [e2] at hs; simp at hs
    exact ⟨g, o, e, h1, World.block_lt_of_cell? w _ h1, h.off hne g (by rw [e]; rfl)⟩
  refine ⟨⟨av, k, c, rfl, hk, fun j s hs => ?_⟩, fun hne b hb => ?_⟩
  · obtain ⟨g, o, e, h1, h2, h3⟩ := hblk j s hs
    exact ⟨g, o, e, (World.cell?_of_block (hm.block g h2 h3)).trans h1⟩
  · cases l with
    | nil => exact absurd rfl hne
    | cons s l =>
      obtain ⟨g, o, e, _, h2, h3⟩ := hblk 0 s rfl
      rw [e] at hb
      simp only [Value.ownBlock, Option.some.injEq] at hb
      rw [← hb]
      intro hF
      rcases hm.sub g hF with h4 | h4
      · exact h3 h4
      · omega
theorem Sm.later {w w' : World} {F : Nat → Prop} {v : Value} {l : List ByteArray} (h : Sm w F v l) (hb : Below w.heap.size w w') : Sm w' F v l := ⟨h.ss.below hb, h.off⟩
end Go.Proofs.YtboejbjobjhajaaGreatDoor
namespace Go.Proofs.YtboejbjobjhajaaGreatDoor
open Go.RowKit
theorem grown_setRow (w : World) (g : Nat) (cs : Array Value) : w.grownBy (w.setRow g cs) (some g) := ⟨rfl, rfl, rfl, by simp [World.setRow], fun k hk hne => setRow_other w g k cs (fun e => hne (by rw [e]))⟩
theorem Tq.room_make (t : Tq.Tr) (u : Option ByteArray) (p d : ByteArray) (own z : Int) : (Tq.makeAt t u p own z d).2.room = t.room := by
  unfold Tq.makeAt
  split
  · rfl
  · split <;> rfl
theorem Tq.room_doo (t : Tq.Tr) (o : O) (s z : Int) : (Tq.doo t o s z).2.room = t.room := by
  unfold Tq.doo
  split
  · rfl
  · split
    · rfl
    · split
      · unfold Tq.create
        simp only []
        split
        · exact Tq.room_make _ _ _ _ _ _
        · split
          · rfl
          · split
            · rfl
            · split
              · split
                · rfl
                · exact Tq.room_make _ _ _ _ _ _
              · exact Tq.room_make _ _ _ _ _ _
      · split
        · rfl
        · unfold Tq.atNode
          split
          · rfl
          · split
            · split <;> rfl
            · split
              · rfl
              · split
                · rfl
                · split
                  · rfl
                  · split <;> rfl
end Go.Proofs.YtboejbjobjhajaaGreatDoor
