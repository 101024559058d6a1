/- What the reference's place answers. -/
import Derived.Test.YtlgpjgncimcijaaRefA10
import Derived.Test.YtlgpjgncimcijaaRise10
namespace Go.Proofs.Ytlgpjgncimcijaa
open Go.RowKit

set_option maxRecDepth 20000 in
set_option maxHeartbeats 2000000 in
theorem refPlace_any (u : Value) (ss : List ByteArray) (s : ByteArray) (w : World) (h : Ss w u ss) (hN : ss.length ≤ 100000) (hr : Kq.Rises ss) :
    Calls Try.prog 41 #[u, .string s] w fun e w' => e = .returned (.tuple #[.int .i64 ((Kq.low ss s).length : Int), .bool (Kq.has ss s)]) ∧ Below w.heap.size w w' := by
  obtain ⟨av, N, c, rfl, hk, hc⟩ := h
  obtain ⟨L, hL⟩ : ∃ L, L = (Kq.low ss s).length := ⟨_, rfl⟩
  obtain ⟨t, ht⟩ : ∃ t, t = Kq.has ss s := ⟨_, rfl⟩
  have HC : Hid ((∀ (j : Nat) s, ss[j]? = some s → ∃ g o, av = some ⟨g, o, none⟩ ∧ w.cell? ⟨g, o + j, none⟩ = some (.string s)) ∧ N = ss.length) := ⟨hc, hk⟩
  have HL : Hid (L = (Kq.low ss s).length ∧ t = Kq.has ss s ∧ Kq.Rises ss) := ⟨hL, ht, hr⟩
  have hN1 : N ≤ 100000 := by omega
  have hLN : L ≤ N := by have := Kq.low_len ss s; omega
  rw [← hL, ← ht]
  clear hc hk hN hL ht hr
  go_enter Try.func41, Try.ntmps41
  go_wp2
  go_loopw [6] (fun i wr => ∃ k : Nat, k ≤ L ∧ i = .int .i64 (k : Int) ∧ Below w.heap.size w wr) (fun i _ => N + 1 - (intOf i).toNat)
  case atStart => exact ⟨0, Nat.zero_le _, rfl, Below.refl _ _⟩
  case round =>
    obtain ⟨k, hk, rfl, hb⟩ := hrel
    have HR : Hid (Below w.heap.size w wr) := hb
    clear hb
    have i1 : (0 : Int) ≤ (k : Int) := by omega
    by_cases hlt : k < L
    · have hlt' : (k : Int) < (N : Int) := by omega
      have hwk : IntKind.wrap .i64 ((k : Int) + 1) = (k : Int) + 1 := by rw [IntKind.wrap_i64]; omega
      obtain ⟨x, hx, hxl⟩ := Kq.low_at (l := ss) (s := s) (k := k) (by have := HL.out.1; omega)
      obtain ⟨g, o, hav, lx⟩ := HC.out.1 k x hx
      subst hav
      have lx' : wr.cell? ⟨g, o + k, none⟩ = some (.string x) := Below.kept HR.out lx
      clear lx hx
      have hless : Op.bytesLess x.toList s.toList = true := hxl
      clear hxl
      go_wp2
      go_roundw
      case rel => exact ⟨k + 1, by omega, by go_num, HR.out⟩
      case measure => simp [intOf]; omega
    · obtain rfl : k = L := by omega
      clear hlt hk
      by_cases hlt : k < N
      · have hlt' : (k : Int) < (N : Int) := by omega
        obtain ⟨x, hx⟩ : ∃ x, ss[k]? = some x := ⟨_, List.getElem?_eq_getElem (by have := HC.out.2; omega)⟩
        obtain ⟨hxl, hxe⟩ := Kq.low_end HL.out.2.2 (by rw [← HL.out.1]; exact hx)
        obtain ⟨g, o, hav, lx⟩ := HC.out.1 k x hx
        subst hav
        have lx' : wr.cell? ⟨g, o + k, none⟩ = some (.string x) := Below.kept HR.out lx
        have hless : Op.bytesLess x.toList s.toList = false := hxl
        have heq : (x.toList == s.toList) = t := by
          rw [HL.out.2.1, hxe, Bool.eq_iff_iff, decide_eq_true_eq]
          exact ⟨fun h => bytes_eq h, fun h => by rw [h]; simp⟩
        clear lx hx hxl hxe
        go_wp2_with fail
        go_quiet (fail)
        have lx2 : (wr.drewN nq).cell? ⟨g, o + k, none⟩ = some (.string x) := lx'
        clear lx'
        have HB : Hid (Below w.heap.size w (wr.drewN nq)) := below_drewN HR.out _
        go_wp2_with fail
        go_ret2
        exact ⟨rfl, HB.out⟩
      · have hlt' : ¬ (k : Int) < (N : Int) := by omega
        obtain rfl : t = false := by rw [HL.out.2.1]; exact Kq.low_all HL.out.2.2 (by have := HL.out.1; have := HC.out.2; omega)
        go_wp2_with fail
        go_quiet (fail)
        have HB : Hid (Below w.heap.size w (wr.drewN nq)) := below_drewN HR.out _
        go_wp2_with fail
        go_ret2
        exact ⟨rfl, HB.out⟩
end Go.Proofs.Ytlgpjgncimcijaa
