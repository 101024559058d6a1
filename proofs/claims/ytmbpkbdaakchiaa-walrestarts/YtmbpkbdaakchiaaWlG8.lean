/- What slices.Delete of rows does at the end of a list. -/
import Derived.Test.YtmbpkbdaakchiaaWlF8
import Derived.Test.YtmbpkbdaakchiaaHeld2
import Derived.Lib.OwnBridge
namespace Go.Proofs.Ytmbpkbdaakchiaa
open Go.RowKit

/-- A slice's value, as a triple. -/
def encB (x : Option Addr × Nat × Nat) : Value := .slice x.1 x.2.1 x.2.2
def decB : Value → Option Addr × Nat × Nat
  | .slice a n c => (a, n, c)
  | _ => (none, 0, 0)
theorem enc_dec {us : List Value} (h : ∀ u ∈ us, ∃ a n c, u = Value.slice a n c) : (us.map decB).map encB = us := by
  rw [List.map_map]
  refine (List.map_congr_left (fun u hu => ?_)).trans (List.map_id us)
  obtain ⟨a, n, c, rfl⟩ := h u hu
  rfl

theorem grownBy_putRow {w : World} {g q : Nat} {d : Array (Option Addr × Nat × Nat)} : w.grownBy (Sort.putRow encB (Sort.ahead w q) g 0 d) (some g) :=
  ⟨rfl, rfl, rfl, by simp [Sort.putRow, Sort.mapBlock, Sort.ahead], fun k _ hk => by
    have hne : g ≠ k := fun e => hk (by rw [e])
    simp [Sort.putRow, Sort.mapBlock, Sort.ahead, Array.getElem?_modify, hne]⟩

theorem delete_any (gg m cv i : Nat) (us : List Value) (w : World) (ho : w.ownsRow 0 31 1 (.slice (some ⟨gg, 0, none⟩) m cv) m us) (hs : ∀ u ∈ us, ∃ a n c, u = Value.slice a n c) (hi : i ≤ m) :
    Calls Try.prog 31 #[.slice (some ⟨gg, 0, none⟩) m cv, .int .i64 (i : Int), .int .i64 (m : Int)] w fun e w' => e = .returned (.slice (some ⟨gg, 0, none⟩) i cv) ∧ w'.ownsRow 0 31 1 (.slice (some ⟨gg, 0, none⟩) i cv) i (us.take i) ∧ w.grownBy w' (some gg) := by
  obtain ⟨i0, hi0, _, hz1, _⟩ := info_parts infoBytes
  have he := enc_dec hs
  have hl : us.length = m := by have := ho.1; omega
  rw [← he] at ho
  obtain ⟨g1, c1, e1, _, _, h4, h5, h6, h7⟩ := Lib.holds_of_ownsRow ho (by simp)
  simp only [Value.slice.injEq, Option.some.injEq, Addr.mk.injEq, and_true, true_and] at e1
  obtain ⟨rfl, rfl⟩ := e1
  have hsz : (us.map decB).toArray.size = m := by simp [hl]
  have hd := Try.slices_Delete_bs encB (fun _ => rfl) (none, 0, 0) Try.zeroValue31 i0 hi0 hz1 gg 0 cv i m (us.map decB).toArray w h7 (by rw [hsz]; exact h4) (Nat.le_trans h5 (by unfold maxLen; omega)) hi (by rw [hsz]; exact Nat.le_refl _)
  rw [hsz] at hd
  refine hd.mono ?_
  rintro e w' ⟨rfl, q, rfl⟩
  have hys : ((us.map decB).take i ++ (us.map decB).drop m ++ List.replicate (m - i) ((none, 0, 0) : Option Addr × Nat × Nat)).length = m := by
    simp [hl]
    omega
  refine ⟨by rw [show m - (m - i) = i by omega], ?_, grownBy_putRow⟩
  have h := Lib.ownsRow_putRow (q := q) (k := i) ho hys hi
  have ht : (((us.map decB).take i ++ (us.map decB).drop m ++ List.replicate (m - i) ((none, 0, 0) : Option Addr × Nat × Nat)).take i).map encB = us.take i := by
    rw [List.append_assoc, List.take_append_of_le_length (by simp [hl]; omega), List.take_take, Nat.min_self, List.map_take, he]
  rw [ht] at h
  exact h
end Go.Proofs.Ytmbpkbdaakchiaa
