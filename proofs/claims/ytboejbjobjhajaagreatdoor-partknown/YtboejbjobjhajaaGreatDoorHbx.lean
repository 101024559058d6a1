/- Texts that lie apart from a tree; what the statements' own has answers; the reference's Parent and Name in a tree's words. A node in a box of its own, beside a tree. -/
import Derived.Test.YtboejbjobjhajaaGreatDoorLa1
import Derived.Test.YtboejbjobjhajaaGreatDoorPln
import Derived.Test.YtboejbjobjhajaaGreatDoorLibQ
namespace Go.Proofs.YtboejbjobjhajaaGreatDoor
open Go.RowKit

end Go.Proofs.YtboejbjobjhajaaGreatDoor
namespace Go.Proofs.YtboejbjobjhajaaGreatDoor
open Go.RowKit

theorem grown_setRow (w : World) (g : Nat) (cs : Array Value) : w.grownBy (w.setRow g cs) (some g) := ⟨rfl, rfl, rfl, by simp [World.setRow], fun k hk hne => setRow_other w g k cs (fun e => hne (by rw [e]))⟩
theorem Tq.room_make (t : Tq.Tr) (u : Option ByteArray) (p d : ByteArray) (own z : Int) : (Tq.makeAt t u p own z d).2.room = t.room := by
  unfold Tq.makeAt
  split
  · rfl
  · split <;> rfl
theorem Tq.room_doo (t : Tq.Tr) (o : O) (s z : Int) : (Tq.doo t o s z).2.room = t.room := by
  unfold Tq.doo
  split
  · rfl
  · split
    · rfl
    · split
      · unfold Tq.create
        simp only []
        split
        · exact Tq.room_make _ _ _ _ _ _
        · split
          · rfl
          · split
            · rfl
            · split
              · split
                · rfl
                · exact Tq.room_make _ _ _ _ _ _
              · exact Tq.room_make _ _ _ _ _ _
      · split
        · rfl
        · unfold Tq.atNode
          split
          · rfl
          · split
            · split <;> rfl
            · split
              · rfl
              · split
                · rfl
                · split
                  · rfl
                  · split <;> rfl
end Go.Proofs.YtboejbjobjhajaaGreatDoor
