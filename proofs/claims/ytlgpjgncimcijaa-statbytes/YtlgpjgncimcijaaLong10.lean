/- What the statements' own long answers. -/
import Derived.Test.YtlgpjgncimcijaaRefA10
namespace Go.Proofs.Ytlgpjgncimcijaa
open Go.RowKit

/-- A node that is more than is asked of. -/
def LongN (n : Kq.Kn) : Prop := 40 < n.names.length ∨ 1200 < n.data.size ∨ ∃ s ∈ n.names, 100 < s.size

set_option maxRecDepth 20000 in
set_option maxHeartbeats 4000000 in
theorem long_any10 (n : Kq.Kn) (a : Option Addr) (N c : Nat) (w : World) (h : Ss w (.slice a N c) n.names) (hN : n.names.length ≤ maxLen) (hd : n.data.size ≤ maxLen) (hs : ∀ s ∈ n.names, s.size ≤ maxLen) :
    Calls Try.prog 18 #[kv n (.slice a N c)] w (BoolP (LongN n) w) := by
  have HC : Hid ((∀ (j : Nat) s, n.names[j]? = some s → ∃ g o, a = some ⟨g, o, none⟩ ∧ w.cell? ⟨g, o + j, none⟩ = some (.string s)) ∧ N = n.names.length) := by
    obtain ⟨av, k, c', e, hk, hc⟩ := h
    simp only [Value.slice.injEq] at e
    obtain ⟨rfl, rfl, rfl⟩ := e
    exact ⟨hc, hk⟩
  have HSZ : Hid (∀ s ∈ n.names, s.size ≤ maxLen) := hs
  have hN1 : N ≤ 9223372036854775807 := by have := HC.out.2; unfold maxLen at hN; omega
  have hd1 : n.data.size ≤ 9223372036854775807 := by unfold maxLen at hd; omega
  clear h hN hd hs
  obtain ⟨q, hq⟩ : ∃ z, z = w.heap.size := ⟨_, rfl⟩
  have H0 : Hid (Cb (w.alloc (.cells #[.int .i64 n.made, .int .i64 n.changed, .int .i64 n.ver, .int .i64 n.kids, .int .i64 n.owner, .int .i64 n.len, .int .i64 n.cnt, .string n.data, .int .i64 n.next, .slice a N c] 27)) q (k10 n (.slice a N c)) 27 ∧ Below w.heap.size w (w.alloc (.cells #[.int .i64 n.made, .int .i64 n.changed, .int .i64 n.ver, .int .i64 n.kids, .int .i64 n.owner, .int .i64 n.len, .int .i64 n.cnt, .string n.data, .int .i64 n.next, .slice a N c] 27))) := ⟨by rw [hq]; exact Cb.made w _ _, (Below.refl _ w).alloc (Nat.le_refl _) _⟩
  unfold kv
  go_enter Try.func18, Try.ntmps18
  by_cases h40 : 40 < N
  · have h40' : (40 : Int) < (N : Int) := by omega
    have HY : Hid (LongN n) := Or.inl (by have := HC.out.2; omega)
    go_wp2
    go_ret
    exact ⟨true, rfl, ⟨fun _ => HY.out, fun _ => rfl⟩, H0.out.2⟩
  have h40' : ¬ (40 : Int) < (N : Int) := by omega
  by_cases h12 : 1200 < n.data.size
  · have h12' : (1200 : Int) < (n.data.size : Int) := by omega
    have HY : Hid (LongN n) := Or.inr (Or.inl h12)
    go_wp2
    go_ret
    exact ⟨true, rfl, ⟨fun _ => HY.out, fun _ => rfl⟩, H0.out.2⟩
  have h12' : ¬ (1200 : Int) < (n.data.size : Int) := by omega
  have HNO : Hid (¬ 40 < n.names.length ∧ ¬ 1200 < n.data.size) := ⟨by have := HC.out.2; omega, h12⟩
  go_upto_region 3 with fail
  rw [← hq]
  clear hq
  generalize w.alloc (.cells #[.int .i64 n.made, .int .i64 n.changed, .int .i64 n.ver, .int .i64 n.kids, .int .i64 n.owner, .int .i64 n.len, .int .i64 n.cnt, .string n.data, .int .i64 n.next, .slice a N c] 27) = w0 at *
  go_wp2
  go_loopw [3] (fun i wr => ∃ k : Nat, k ≤ N ∧ i = .int .i64 (k : Int) ∧ (∀ s ∈ n.names.take k, ¬ 100 < s.size) ∧ w0 = wr) (fun i _ => N - (intOf i).toNat)
  case atStart => exact ⟨0, Nat.zero_le _, rfl, fun s hs => by simp at hs, rfl⟩
  case round =>
    obtain ⟨k, hk, rfl, hsm, rfl⟩ := hrel
    have HSM : Hid (∀ s ∈ n.names.take k, ¬ 100 < s.size) := hsm
    clear hsm
    have c9 : w0.cell? ⟨q, 9, none⟩ = some (.slice a N c) := H0.out.1.cell 9
    by_cases hlt : k < N
    · have hlt' : (k : Int) < (N : Int) := by omega
      have hk0 : (0 : Int) ≤ (k : Int) := by omega
      have hwk : IntKind.wrap .i64 ((k : Int) + 1) = (k : Int) + 1 := by rw [IntKind.wrap_i64]; omega
      obtain ⟨s, hs⟩ : ∃ s, n.names[k]? = some s := ⟨_, List.getElem?_eq_getElem (by have := HC.out.2; omega)⟩
      have HX : Hid (n.names.take (k + 1) = n.names.take k ++ [s] ∧ s ∈ n.names) := ⟨by rw [List.take_add_one, hs]; rfl, List.mem_of_getElem? hs⟩
      obtain ⟨g, o, hav, lx⟩ := HC.out.1 k s hs
      subst hav
      have lx' : w0.cell? ⟨g, o + k, none⟩ = some (.string s) := Below.kept H0.out.2 lx
      have hsz : s.size ≤ 9223372036854775807 := by have := HSZ.out s HX.out.2; unfold maxLen at this; omega
      clear hs lx
      by_cases h100 : 100 < s.size
      · have h100' : (100 : Int) < (s.size : Int) := by omega
        have HY : Hid (LongN n) := Or.inr (Or.inr ⟨s, HX.out.2, h100⟩)
        go_wp2
        go_ret
        exact ⟨true, rfl, ⟨fun _ => HY.out, fun _ => rfl⟩, H0.out.2⟩
      have h100' : ¬ (100 : Int) < (s.size : Int) := by omega
      have HN : Hid (∀ x ∈ n.names.take (k + 1), ¬ 100 < x.size) := fun x hx => by
        rw [HX.out.1] at hx
        rcases List.mem_append.1 hx with hx | hx
        · exact HSM.out x hx
        · simp at hx
          rw [hx]
          exact h100
      go_wp2
      go_roundw
      case rel => exact ⟨k + 1, by omega, by go_num, HN.out, by first | rfl | trivial⟩
      case measure => simp [intOf]; omega
    · have hlt' : ¬ (k : Int) < (N : Int) := by omega
      have HE : Hid (¬ LongN n) := by
        have e : ¬ LongN n := by
          rintro (h | h | ⟨s, h1, h2⟩)
          · exact HNO.out.1 h
          · exact HNO.out.2 h
          · refine HSM.out s ?_ h2
            rw [List.take_of_length_le (by have := HC.out.2; omega)]
            exact h1
        exact e
      go_wp2
      go_ret
      exact ⟨false, rfl, ⟨fun h => (by cases h), fun h => absurd h HE.out⟩, H0.out.2⟩
end Go.Proofs.Ytlgpjgncimcijaa
