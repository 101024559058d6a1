/- TreeNumbers: its walk. -/
import Derived.Test.YtoacepebnbaofabDoorLVersions11
import Derived.Test.YtoacepebnbaofabDoorPln
namespace Go.Proofs.YtoacepebnbaofabDoor.Tq
open Kq
def pAX : ByteArray := ⟨#[47, 97, 47, 120]⟩
theorem bp_a : Bp pA pAX := ⟨by kernel_rfl, by kernel_rfl, by kernel_rfl, by kernel_rfl, by decide, by decide⟩
/-- The parent alone. -/
theorem kd_made {P B : ByteArray} (hb : Bp P B) {r z : Int} (hr : ¬ (r < 1 ∨ 500 < r)) (hz : 0 ≤ z) : ∃ x t, doo ⟨r, []⟩ (Tq.mk P 0) 1 z = (x, t) ∧ x.err = 0 ∧ t.room = r ∧ Kd P B t 0 [] 0 z := by
  have e : doo ⟨r, []⟩ (Tq.mk P 0) 1 z = (told P ⟨#[]⟩ [] (new z 0 ⟨#[]⟩), ⟨r, [(P, new z 0 ⟨#[]⟩)]⟩) := by
    rw [doo_top hb.goodP (Or.inl rfl) hb.upP (by decide) hz, make_yes (by rfl) (by show ((0 : Nat) : Int) < r; omega)]
    rfl
  have h := fine_doo (o := Tq.mk P 0) (s := 1) (z := z) (fine11_new hr) ((few_new r).more (by decide))
  rw [e] at h
  refine ⟨_, _, e, rfl, rfl, h, fun e he => ?_, ⟨new z 0 ⟨#[]⟩, ?_, rfl, rfl, rfl, rfl, rfl, rfl, rfl, ?_⟩, ?_, ?_, rfl, ?_, List.nodup_nil, by simp⟩
  · simp at he
    rw [he]
    exact Nat.le_refl _
  · show find [(P, _)] P = _
    rw [find_cons, if_pos rfl]
  · intro s
    simp [new]
  · intro q nd hf
    have hf : find [(P, new z 0 ⟨#[]⟩)] q = some nd := hf
    rw [find_cons] at hf
    split at hf
    · rename_i e
      exact Or.inl e.symm
    · cases hf
  · intro j hj
    cases hj
  · intro j hj
    cases hj
/-- The last one that was made. -/
def lastOf (B : ByteArray) : Nat → ByteArray
  | 0 => ⟨#[]⟩
  | k + 1 => kid B k
theorem last_no {B : ByteArray} (hb : 1 ≤ B.data.toList.length) {k : Nat} (hk : k ≤ 800) : (Op.bytesLess (kid B k).toList (lastOf B k).toList || (kid B k).toList == (lastOf B k).toList) = false := by
  have e : ∀ l, (tb l).toList = l := fun l => by rw [ByteArray.toList_eq]; exact tb_data l
  cases k with
  | zero =>
    unfold lastOf kid
    rw [e]
    have e0 : (⟨#[]⟩ : ByteArray).toList = [] := by rw [ByteArray.toList_eq]
    rw [e0]
    cases hl : B.data.toList with
    | nil => rw [hl] at hb; simp at hb
    | cons c l => simp [Op.bytesLess]
  | succ k =>
    unfold lastOf
    rw [kid_less (by omega) (by omega)]
    have h1 : ¬ (kid B (k + 1)).toList = (kid B k).toList := fun h => by
      unfold kid at h
      rw [e, e] at h
      have := dig_inj (by omega) (by omega) (List.append_cancel_left h)
      omega
    simp [h1]
end Go.Proofs.YtoacepebnbaofabDoor.Tq
namespace Go.Proofs.YtoacepebnbaofabDoor
open Go.RowKit

theorem kid_size {P B : ByteArray} (hb : Tq.Bp P B) {j : Nat} (hj : j ≤ 2147483647) : (Tq.kid B j).size ≤ maxLen := by
  have h1 := (Pl.good_parts (hb.good_kid hj)).2.2
  rw [Array.length_toList] at h1
  have h2 : (Tq.kid B j).size = (Tq.kid B j).data.size := rfl
  unfold maxLen
  omega

end Go.Proofs.YtoacepebnbaofabDoor
