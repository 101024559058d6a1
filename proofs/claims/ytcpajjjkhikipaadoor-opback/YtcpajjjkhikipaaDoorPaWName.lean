/- What path.goodName answers: a walk over its body. -/
import Derived.Test.YtcpajjjkhikipaaDoorBase
import Derived.Test.YtcpajjjkhikipaaDoorPaPlain
import Derived.WalkKit
import Derived.WalkSpells
import Derived.WalkLawsBesides
namespace Go.Proofs.YtcpajjjkhikipaaDoor.Pa
open Go.RowKit

theorem take_snoc (s : ByteArray) (k : Nat) (h : k < s.size) : s.data.toList.take (k + 1) = s.data.toList.take k ++ [s[k]] := by
  rw [List.take_succ_eq_append_getElem (by simpa using h)]; rfl

set_option maxRecDepth 20000 in
set_option maxHeartbeats 400000 in
theorem goodName_any (s : ByteArray) (w : World) (hs : s.size ≤ maxLen) :
    Calls Tryd.prog 55 #[.string s] w fun e w' => e = .returned (.bool (Pl.nameB s.data.toList)) ∧ w' = w := by
  unfold maxLen at hs
  cases h1 : s.toList.isEmpty with
  | true =>
    have hf : Pl.nameB s.data.toList = false := Pl.nameB_none (by rw [← Lib.toList_data]; simpa using h1)
    rw [hf]; clear hf
    go_enter Tryd.func55, Tryd.ntmps55
    go_wp2
    go_ret
    exact ⟨rfl, rfl⟩
  | false =>
  by_cases h2 : 40 < (s.size : Int)
  · have hf : Pl.nameB s.data.toList = false := Pl.nameB_long (by rw [← Lib.size_eq]; omega)
    rw [hf]; clear hf
    go_enter Tryd.func55, Tryd.ntmps55
    go_wp2
    go_ret
    exact ⟨rfl, rfl⟩
  cases h3 : s.toList == [46] with
  | true =>
    have hf : Pl.nameB s.data.toList = false := Pl.nameB_dot (by rw [← Lib.toList_data]; simpa using h3)
    rw [hf]; clear hf
    go_enter Tryd.func55, Tryd.ntmps55
    go_wp2
    go_ret
    exact ⟨rfl, rfl⟩
  | false =>
  cases h4 : s.toList == [46, 46] with
  | true =>
    have hf : Pl.nameB s.data.toList = false := Pl.nameB_dots (by rw [← Lib.toList_data]; simpa using h4)
    rw [hf]; clear hf
    go_enter Tryd.func55, Tryd.ntmps55
    go_wp2
    go_ret
    exact ⟨rfl, rfl⟩
  | false =>
  have hf : Pl.nameB s.data.toList = s.data.toList.all Pl.byteB := Pl.nameB_rest (by rw [← Lib.toList_data]; intro e; rw [e] at h1; simp at h1) (by rw [← Lib.size_eq]; omega) (by rw [← Lib.toList_data]; simpa using h3) (by rw [← Lib.toList_data]; simpa using h4)
  rw [hf]; clear hf
  have h2' : ¬ 40 < (s.size : Int) := h2
  obtain ⟨r, hr⟩ : ∃ r, r = s.data.toList.all Pl.byteB := ⟨_, rfl⟩
  rw [← hr]
  have HR : Hid (r = s.data.toList.all Pl.byteB) := hr
  clear hr
  go_enter Tryd.func55, Tryd.ntmps55
  go_wp2
  go_loop [21] (fun i => ∃ k : Nat, k ≤ s.size ∧ i = .int .i64 k ∧ (s.data.toList.take k).all Pl.byteB = true) (fun i => s.size - (intOf i).toNat)
  case atStart => exact ⟨0, Nat.zero_le _, rfl, rfl⟩
  case round =>
    obtain ⟨k, hk, rfl, hall⟩ := hrel
    have HA : Hid ((s.data.toList.take k).all Pl.byteB = true) := hall
    clear hall
    by_cases hlt : k < s.size
    · have hts := take_snoc s k hlt
      have HS : Hid (s.data.toList.take (k + 1) = s.data.toList.take k ++ [s[k]]) := hts
      have HM : Hid (s[k] ∈ s.data.toList) := List.mem_of_mem_take (i := k + 1) (by rw [hts]; simp)
      clear hts
      have hlt' : (k : Int) < s.size := by omega
      by_cases b1 : (s[k].toNat : Int) < 33
      · go_wp2
        go_ret
        exact ⟨ret_bool (by rw [HR.out]; exact (Pl.all_no HM.out (Pl.byteB_low b1)).symm), rfl⟩
      by_cases b2 : (126 : Int) < s[k].toNat
      · go_wp2
        go_ret
        exact ⟨ret_bool (by rw [HR.out]; exact (Pl.all_no HM.out (Pl.byteB_high b2)).symm), rfl⟩
      cases b3 : (s[k].toNat : Int) == 47 with
      | true =>
        go_wp2
        go_ret
        exact ⟨ret_bool (by rw [HR.out]; exact (Pl.all_no HM.out (Pl.byteB_slash b3)).symm), rfl⟩
      | false =>
        go_wp2
        go_round
        case rel => exact ⟨k + 1, by omega, by go_num, by rw [HS.out, List.all_append, HA.out]; simp [Pl.byteB_yes (by omega) (by omega) b3]⟩
        case measure => simp [intOf]; omega
    · go_wp2
      go_ret
      exact ⟨ret_bool (by have := HA.out; rw [List.take_of_length_le (by simp; omega)] at this; rw [HR.out]; exact this.symm), rfl⟩

end Go.Proofs.YtcpajjjkhikipaaDoor.Pa
