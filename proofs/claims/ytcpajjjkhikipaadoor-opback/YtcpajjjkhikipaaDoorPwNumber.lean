/- What pack.number answers. -/
import Derived.Test.YtcpajjjkhikipaaDoorPwGrown
namespace Go.Proofs.YtcpajjjkhikipaaDoor.Pw
open Go.RowKit

theorem be8_take (z : Int) (k : Nat) (h : k < 8) : (Pk.be8 z).take (k + 1) = (Pk.be8 z).take k ++ [Pk.byteAt z (56 - 8 * k)] := by
  match k, h with
  | 0, _ => rfl
  | 1, _ => rfl
  | 2, _ => rfl
  | 3, _ => rfl
  | 4, _ => rfl
  | 5, _ => rfl
  | 6, _ => rfl
  | 7, _ => rfl

set_option maxRecDepth 20000 in
set_option maxHeartbeats 400000 in
theorem number_any (B : Nat) (v : Value) (n : Nat) (xs : List UInt8) (z : Int) (w : World) (hown : w.ownsRow B 5 1 v n (bc xs)) (hB : B ≤ w.heap.size) (hN : n ≤ 1000000) :
    Calls Tryd.prog 33 #[v, .int .i64 z] w fun e w' => ∃ v', e = .returned v' ∧ w'.ownsRow B 5 1 v' (n + 8) (bc (xs ++ Pk.be8 z)) ∧ Below B w w' := by
  obtain ⟨i0, hi, hz0, hz1, hz2⟩ := info_parts infoByte
  have HO : Hid (w.ownsRow B 5 1 v n (bc xs)) := hown
  clear hown
  go_enter Tryd.func33, Tryd.ntmps33
  go_wp2
  go_loopw [0, 5] (fun u i wr => ∃ k : Nat, k ≤ 8 ∧ i = .int .i64 (56 - 8 * (k : Int)) ∧ wr.ownsRow B 5 1 u (n + k) (bc (xs ++ (Pk.be8 z).take k)) ∧ Below B w wr) (fun _ i _ => (intOf i + 8).toNat)
  case atStart => exact ⟨0, by omega, rfl, by simpa using HO.out, Below.refl _ _⟩
  case round =>
    obtain ⟨k, hk, rfl, hown, hb⟩ := hrel
    have HO1 : Hid (wr.ownsRow B 5 1 u0 (n + k) (bc (xs ++ (Pk.be8 z).take k))) := hown
    have HB1 : Hid (Below B w wr) := hb
    clear hown hb
    by_cases h8 : k < 8
    · have h0 : (0 : Int) ≤ 56 - 8 * (k : Int) := by omega
      have hBw : B ≤ wr.heap.size := Nat.le_trans hB HB1.out.size
      go_wp2_with (at_builtin; refine append_byte rfl _ _ rfl B _ _ _ rfl wr _ (Pk.byteAt z (56 - 8 * k)) HO1.out hBw rfl (by omega) ?c1 ?_)
      case c1 => rw [Pk.byteAt_nat, IntKind.wrap_u64]
      intro v' w1 hown hb
      have HO2 : Hid (w1.ownsRow B 5 1 v' (n + k + 1) (bc (xs ++ ((Pk.be8 z).take k ++ [Pk.byteAt z (56 - 8 * k)])))) := by first | exact hown | (rw [← List.append_assoc]; exact hown)
      have HB2 : Hid (Below B w w1) := HB1.out.trans hb
      clear hown hb
      go_wp2
      go_roundw
      case rel => exact ⟨k + 1, by omega, by go_num, by rw [be8_take z k h8]; exact HO2.out, HB2.out⟩
      case measure => simp [intOf]; omega
    · have h0 : ¬ (0 : Int) ≤ 56 - 8 * (k : Int) := by omega
      obtain rfl : k = 8 := by omega
      go_wp2
      go_ret
      exact ⟨_, rfl, HO1.out, HB1.out⟩

end Go.Proofs.YtcpajjjkhikipaaDoor.Pw
