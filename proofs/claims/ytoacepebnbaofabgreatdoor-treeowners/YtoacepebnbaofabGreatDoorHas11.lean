/- Texts that lie apart from a tree; what the statements' own has answers; the reference's Parent and Name in a tree's words. -/
import Derived.Test.YtoacepebnbaofabGreatDoorActs11
import Derived.Test.YtoacepebnbaofabGreatDoorPln
import Derived.Test.YtoacepebnbaofabGreatDoorLibQ
namespace Go.Proofs.YtoacepebnbaofabGreatDoor
open Go.RowKit

/-- Texts that lie apart from a tree's blocks. -/
structure Sm (w : World) (F : Nat → Prop) (v : Value) (l : List ByteArray) : Prop where
  ss : Ss w v l
  off : l ≠ [] → Off11 F v
theorem Sm.moved {w w' : World} {F F' : Nat → Prop} {v : Value} {l : List ByteArray} (h : Sm w F v l) (hm : Moved w w' F F') : Sm w' F' v l := by
  obtain ⟨av, k, c, rfl, hk, hc⟩ := h.ss
  have hblk : ∀ (j : Nat) s, l[j]? = some s → ∃ g o, av = some ⟨g, o, none⟩ ∧ w.cell? ⟨g, o + j, none⟩ = some (.string s) ∧ g < w.heap.size ∧ ¬ F g := fun j s hs => by
    obtain ⟨g, o, e, h1⟩ := hc j s hs
    have hne : l ≠ [] := fun e2 => by rw [e2] at hs; simp at hs
    exact ⟨g, o, e, h1, World.block_lt_of_cell? w _ h1, h.off hne g (by rw [e]; rfl)⟩
  refine ⟨⟨av, k, c, rfl, hk, fun j s hs => ?_⟩, fun hne b hb => ?_⟩
  · obtain ⟨g, o, e, h1, h2, h3⟩ := hblk j s hs
    exact ⟨g, o, e, (World.cell?_of_block (hm.block g h2 h3)).trans h1⟩
  · cases l with
    | nil => exact absurd rfl hne
    | cons s l =>
      obtain ⟨g, o, e, _, h2, h3⟩ := hblk 0 s rfl
      rw [e] at hb
      simp only [Value.ownBlock, Option.some.injEq] at hb
      rw [← hb]
      intro hF
      rcases hm.sub g hF with h4 | h4
      · exact h3 h4
      · omega
theorem Sm.later {w w' : World} {F : Nat → Prop} {v : Value} {l : List ByteArray} (h : Sm w F v l) (hb : Below w.heap.size w w') : Sm w' F v l := ⟨h.ss.below hb, h.off⟩

set_option maxRecDepth 20000 in
set_option maxHeartbeats 1000000 in
theorem has_any11 (u : Value) (ss : List ByteArray) (s : ByteArray) (w : World) (h : Ss w u ss) (hN : ss.length ≤ 100000) :
    Calls Tryz.prog 15 #[u, .string s] w (BoolP (s ∈ ss) w) := by
  obtain ⟨av, N, c, rfl, hk, hc⟩ := h
  have HC : Hid ((∀ (j : Nat) s, ss[j]? = some s → ∃ g o, av = some ⟨g, o, none⟩ ∧ w.cell? ⟨g, o + j, none⟩ = some (.string s)) ∧ N = ss.length) := ⟨hc, hk⟩
  have hN1 : N ≤ 100000 := by omega
  clear hc hk hN
  go_enter Tryz.func15, Tryz.ntmps15
  go_wp2
  go_loopw [5] (fun i wr => ∃ k : Nat, k ≤ N ∧ i = .int .i64 (k : Int) ∧ (∀ x ∈ ss.take k, x ≠ s) ∧ w = wr) (fun i _ => N - (intOf i).toNat)
  case atStart => exact ⟨0, Nat.zero_le _, rfl, fun x hx => by simp at hx, rfl⟩
  case round =>
    obtain ⟨k, hk, rfl, hsm, rfl⟩ := hrel
    have HSM : Hid (∀ x ∈ ss.take k, x ≠ s) := hsm
    clear hsm
    by_cases hlt : k < N
    · have hlt' : (k : Int) < (N : Int) := by omega
      have hk0 : (0 : Int) ≤ (k : Int) := by omega
      have hwk : IntKind.wrap .i64 ((k : Int) + 1) = (k : Int) + 1 := by rw [IntKind.wrap_i64]; omega
      obtain ⟨x, hx⟩ : ∃ x, ss[k]? = some x := ⟨_, List.getElem?_eq_getElem (by have := HC.out.2; omega)⟩
      have HX : Hid (ss.take (k + 1) = ss.take k ++ [x] ∧ x ∈ ss) := ⟨by rw [List.take_add_one, hx]; rfl, List.mem_of_getElem? hx⟩
      obtain ⟨g, o, hav, lx⟩ := HC.out.1 k x hx
      subst hav
      clear hx
      cases he : (x.toList == s.toList) with
      | true =>
        have HY : Hid (s ∈ ss) := by
          have e : s ∈ ss := by rw [← bytes_eq he]; exact HX.out.2
          exact e
        go_wp2
        go_ret
        exact ⟨true, rfl, ⟨fun _ => HY.out, fun _ => rfl⟩, Below.refl _ _⟩
      | false =>
        have HN : Hid (∀ y ∈ ss.take (k + 1), y ≠ s) := fun y hy => by
          rw [HX.out.1] at hy
          rcases List.mem_append.1 hy with hy | hy
          · exact HSM.out y hy
          · simp at hy
            rw [hy]
            intro e
            rw [e] at he
            simp at he
        go_wp2
        go_roundw
        case rel => exact ⟨k + 1, by omega, by go_num, HN.out, by first | rfl | trivial⟩
        case measure => simp [intOf]; omega
    · have hlt' : ¬ (k : Int) < (N : Int) := by omega
      have HE : Hid (¬ s ∈ ss) := by
        have e : ¬ s ∈ ss := fun h => by
          refine HSM.out s ?_ rfl
          rw [List.take_of_length_le (by have := HC.out.2; omega)]
          exact h
        exact e
      go_wp2
      go_ret
      exact ⟨false, rfl, ⟨fun h => (by cases h), fun h => absurd h HE.out⟩, Below.refl _ _⟩

theorem tb_of {x : ByteArray} {l : List UInt8} (h : x.data.toList = l) : x = Tq.tb l := by rw [← h, Tq.tb_back]
end Go.Proofs.YtoacepebnbaofabGreatDoor
