/- What the reference's Digits answers. -/
import Derived.Test.YtmmbomlpkjgclaaDoorRSame
import Derived.Laws.BytesArg
import Derived.Deep.RegionWith
namespace Go.Proofs.YtmmbomlpkjgclaaDoor
open Go.RowKit

theorem conv_one (W : World) (b : Nat) (z : Int) (h : W.cell? ⟨b, 0, none⟩ = some (.int .u8 z)) :
    (convert 51 9 (.slice (some ⟨b, 0, none⟩) 1 1)).run Tryd.prog W = .ok (.string (strOfNums [z])) W :=
  run_convert_bytes_arg W 51 5 Tryd.underlying51 Tryd.underlying5 b 0 1 1 [z] rfl (fun i hi => by
    obtain rfl : i = 0 := by omega
    exact h) 9 Tryd.underlying9

theorem conv_new (W : World) (z : Int) :
    (convert 51 9 (.slice (some ⟨W.heap.size, 0, none⟩) 1 1)).run Tryd.prog (W.alloc (.cells #[.int .u8 z] 5)) = .ok (.string (strOfNums [z])) (W.alloc (.cells #[.int .u8 z] 5)) :=
  conv_one _ _ z (by simp)

theorem nums_data (n : Nat) : (strOfNums [48 + (n : Int)]).data.toList = [UInt8.ofNat (48 + n)] := by
  have : (48 + (n : Int)).toNat = 48 + n := by omega
  simp [strOfNums, this]

set_option maxHeartbeats 400000 in
theorem digits_small (n : Nat) (w : World) (hn : n < 10) :
    Calls Tryd.prog 35 #[.int .u64 n] w fun e w' => ∃ x : ByteArray, e = .returned (.string x) ∧ x.data.toList = Lib.decDigits n ∧ Below w.heap.size w w' := by
  have h1 : (n : Int) < 10 := by omega
  have hcv := conv_new
  go_enter Tryd.func35, Tryd.ntmps35
  go_wp2
  go_ret
  exact ⟨_, rfl, by rw [nums_data, Lib.decDigits_one hn], (Below.refl _ _).alloc (Nat.le_refl _) _⟩

theorem wrap_div (n : Nat) (h : n ≤ 2147483647) : IntKind.u64.wrap ((n : Int) / 10) = ((n / 10 : Nat) : Int) := by
  rw [IntKind.wrap_u64]
  omega

theorem wrap_mod (n : Nat) : IntKind.u8.wrap (IntKind.u64.wrap (48 + (n : Int).tmod 10)) = 48 + ((n % 10 : Nat) : Int) := by
  rw [Int.tmod_eq_emod_of_nonneg (by omega), IntKind.wrap_u64, IntKind.wrap_u8]
  omega

theorem below_drew {w w' : World} (h : Below w.drew.heap.size w.drew w') : Below w.heap.size w w' := ⟨h.os, h.tape, h.output, h.size, h.block⟩
theorem below_alloc_drew {w w' : World} {o : Obj} (h : Below (w.alloc o).drew.heap.size (w.alloc o).drew w') : Below w.heap.size w w' :=
  ((Below.refl w.heap.size w).alloc (Nat.le_refl _) o).drew.trans (h.mono (by simp))

theorem digits_fin {n : Nat} {x : ByteArray} (hn : ¬ n < 10) (hx : x.data.toList = Lib.decDigits (n / 10)) : (x ++ strOfNums [48 + (n : Int) % 10]).data.toList = Lib.decDigits n := by
  have e : 48 + (n : Int) % 10 = 48 + ((n % 10 : Nat) : Int) := by omega
  rw [data_append, hx, e, nums_data]
  conv => rhs; rw [Lib.decDigits, dif_neg hn]

set_option maxHeartbeats 1000000 in
theorem digits_step (n : Nat) (w : World) (hn : ¬ n < 10) (hN : n ≤ 2147483647)
    (ih : ∀ (z : Int) w, z = ((n / 10 : Nat) : Int) → Calls Tryd.prog 35 #[.int .u64 z] w fun e w' => ∃ x : ByteArray, e = .returned (.string x) ∧ x.data.toList = Lib.decDigits (n / 10) ∧ Below w.heap.size w w') :
    Calls Tryd.prog 35 #[.int .u64 n] w fun e w' => ∃ x : ByteArray, e = .returned (.string x) ∧ x.data.toList = Lib.decDigits n ∧ Below w.heap.size w w' := by
  have h1 : ¬ (n : Int) < 10 := by omega
  have H : Hid (∀ (z : Int) w, z = ((n / 10 : Nat) : Int) → Calls Tryd.prog 35 #[.int .u64 z] w fun e w' => ∃ x : ByteArray, e = .returned (.string x) ∧ x.data.toList = Lib.decDigits (n / 10) ∧ Below w.heap.size w w') := ih
  have HD : Hid ((Lib.decDigits (n / 10)).length ≤ 10) := digits_le (by omega)
  clear ih
  have hcv := conv_one
  have hss : ∀ z : Int, (strOfNums [z]).size = 1 := fun z => strOfNums_size [z]
  go_enter Tryd.func35, Tryd.ntmps35
  go_wp2
  go_region_with (go_at_call 35; refine (H.out _ _ (wrap_div n hN)).mono ?_; rintro e w1 ⟨x, rfl, hx, hb⟩; have hxs : x.size ≤ 10 := (by rw [← sz_list, hx]; exact HD.out); have HX : Hid (x.data.toList = Lib.decDigits (n / 10)) := hx; clear hx; first | (have HB : Hid (Below w.heap.size w w1) := below_drew hb; clear hb) | (have hc1 := (hb.cell (p := ⟨w.heap.size, 0, none⟩) (by simp)).trans (by simp; rfl); have HB : Hid (Below w.heap.size w w1) := below_alloc_drew hb; clear hb))
  all_goals
    go_wp2
    go_ret
    exact ⟨_, rfl, digits_fin hn HX.out, by first | exact HB.out | exact HB.out.alloc HB.out.size _ | exact HB.out.drew | exact (HB.out.alloc HB.out.size _).drew⟩

theorem digits_any : ∀ (n : Nat), n ≤ 2147483647 → ∀ (z : Int) (w : World), z = (n : Int) → Calls Tryd.prog 35 #[.int .u64 z] w fun e w' => ∃ x : ByteArray, e = .returned (.string x) ∧ x.data.toList = Lib.decDigits n ∧ Below w.heap.size w w' := by
  intro n
  induction n using Nat.strongRecOn with
  | _ n ih =>
    intro hN z w hz
    subst hz
    by_cases hn : n < 10
    · exact digits_small n w hn
    · exact digits_step n w hn hN (ih (n / 10) (by omega) (by omega))
end Go.Proofs.YtmmbomlpkjgclaaDoor
