/- What slices.Concat answers of texts. -/
import Derived.Test.YtfcbdjjbchcpjaaDoorNm10
import Derived.Test.YtfcbdjjbchcpjaaDoorShelf
namespace Go.Proofs.YtfcbdjjbchcpjaaDoor
open Go.RowKit

theorem Src.form {w : World} {u : Value} {ms : List ByteArray} (h : Src w u ms) : ∃ a c, u = .slice a ms.length c := by
  rcases h with ⟨rfl, rfl⟩ | ⟨g, o, c, rfl, _⟩
  · exact ⟨none, 0, rfl⟩
  · exact ⟨_, _, rfl⟩

/-- A value is a slice of slices of texts. -/
def Pcs (w : World) (p : Value) (ps : List (List ByteArray)) : Prop := ∃ g o c, p = .slice (some ⟨g, o, none⟩) ps.length c ∧ ∀ (j : Nat) l, ps[j]? = some l → ∃ u, w.cell? ⟨g, o + j, none⟩ = some u ∧ Src w u l
theorem Pcs.below {w w' : World} {p : Value} {ps : List (List ByteArray)} (h : Pcs w p ps) (hb : Below w.heap.size w w') : Pcs w' p ps := by
  obtain ⟨g, o, c, e, hc⟩ := h
  refine ⟨g, o, c, e, fun j l hl => ?_⟩
  obtain ⟨u, h1, h2⟩ := hc j l hl
  exact ⟨u, Below.kept hb h1, h2.below hb⟩

theorem flat_take_le (ps : List (List ByteArray)) (k : Nat) : (ps.take k).flatten.length ≤ ps.flatten.length := by
  conv => rhs; rw [← List.take_append_drop k ps]
  rw [List.flatten_append, List.length_append]
  omega
theorem flat_take_succ {ps : List (List ByteArray)} {k : Nat} {l : List ByteArray} (h : ps[k]? = some l) : (ps.take (k + 1)).flatten = (ps.take k).flatten ++ l := by
  rw [List.take_add_one, h]
  simp

set_option maxRecDepth 20000 in
set_option maxHeartbeats 1000000 in
/-- slices.Grow of no texts. -/
theorem grow_any10 (n : Nat) (w : World) (hn : n ≤ 3000) :
    Calls Tryd.prog 61 #[.slice none 0 0, .int .i64 (n : Int)] w fun e w' => ∃ a c, e = .returned (.slice a 0 c) ∧ w'.ownsRow w.heap.size 9 1 (.slice a 0 c) ([] : List ByteArray).length (sc []) ∧ Below w.heap.size w w' := by
  rcases Nat.eq_zero_or_pos n with rfl | h0
  · refine (Any8.slices_Grow_room Tryd.grow none 0 0 0 w (Nat.le_refl _) (by omega) (by omega) (Nat.le_refl _)).mono ?_
    rintro e w' ⟨rfl, rfl⟩
    exact ⟨_, _, rfl, World.ownsRow_nil _ _ _ _, Below.refl _ _⟩
  · obtain ⟨i0, hi, hz0, hz1, hz2⟩ := info_parts infoText
    refine (Any8.slices_Grow_grow Tryd.grow i0 (.string ⟨#[]⟩) hi hz0 (by rw [hz1]; decide) none 0 0 n [] w (Nat.le_refl _) (by omega) (by rw [hz2]; omega) (by omega) (by simp) (fun _ => rfl) (fun a h => by cases h)).mono ?_
    rintro e w' ⟨rfl, rfl⟩
    refine ⟨_, _, rfl, ?_, ?_⟩
    · have hge := grownCap_ge w (0 + n) 0 (Tryd.grow_ren.t 25)
      exact World.ownsRow_made w.drew _ _ (Nat.le_refl _) (grownCap_le_maxLen w (0 + n) 0 _ (by unfold maxLen; omega)) (by
        simp only [Array.size_append, size_zeroCells, Value.cells]
        rw [Nat.zero_add] at *
        simp
        omega)
    · exact ((Below.refl _ w).drew).alloc (Nat.le_refl _) _

set_option maxRecDepth 20000 in
set_option maxHeartbeats 4000000 in
theorem concat_any10 (p : Value) (ps : List (List ByteArray)) (w : World) (h : Pcs w p ps) (hp : ps.length ≤ 1000) (hN : ps.flatten.length ≤ 3000) :
    Calls Tryd.prog 53 #[p] w fun e w' => ∃ a c, e = .returned (.slice a ps.flatten.length c) ∧ w'.ownsRow w.heap.size 9 1 (.slice a ps.flatten.length c) ps.flatten.length (sc ps.flatten) ∧ Below w.heap.size w w' := by
  have HP : Hid (Pcs w p ps) := h
  obtain ⟨g, o, c, rfl, hc⟩ := h
  have HC : Hid (∀ (j : Nat) l, ps[j]? = some l → ∃ a c u, w.cell? ⟨g, o + j, none⟩ = some u ∧ u = .slice a l.length c ∧ Src w u l) := fun j l hl => by
    obtain ⟨u, h1, h2⟩ := hc j l hl
    obtain ⟨a, c, e⟩ := h2.form
    exact ⟨a, c, u, h1, e, h2⟩
  clear hc
  obtain ⟨n, hn⟩ : ∃ n, n = ps.length := ⟨_, rfl⟩
  rw [← hn] at hp
  rw [← hn]
  have HNN : Hid (n = ps.length) := hn
  have HNF : Hid (ps.flatten.length ≤ 3000) := hN
  clear hn hN
  have HGR : Hid (∀ (n : Nat) (w : World), n ≤ 3000 → Calls Tryd.prog 61 #[.slice none 0 0, .int .i64 (n : Int)] w fun e w' => ∃ a c, e = .returned (.slice a 0 c) ∧ w'.ownsRow w.heap.size 9 1 (.slice a 0 c) ([] : List ByteArray).length (sc []) ∧ Below w.heap.size w w') := grow_any10
  go_enter Tryd.func53, Tryd.ntmps53
  go_wp2
  go_loopw [3, 11] (fun s i wr => ∃ k m : Nat, k ≤ n ∧ i = .int .i64 (k : Int) ∧ s = .int .i64 (m : Int) ∧ m = (ps.take k).flatten.length ∧ w = wr) (fun s i _ => n - (intOf i).toNat)
  case atStart => exact ⟨0, 0, Nat.zero_le _, rfl, rfl, by simp, rfl⟩
  case round =>
    obtain ⟨k, m, hk, rfl, rfl, hm, rfl⟩ := hrel
    have HM : Hid (m = (ps.take k).flatten.length) := hm
    clear hm
    by_cases hlt : k < n
    · obtain ⟨l, hl⟩ : ∃ l, ps[k]? = some l := ⟨ps[k]'(by rw [← HNN.out]; exact hlt), List.getElem?_eq_getElem _⟩
      obtain ⟨a, c', u, h1, rfl, h3⟩ := HC.out k l hl
      obtain ⟨r, hr⟩ : ∃ r, r = l.length := ⟨_, rfl⟩
      rw [← hr] at h1
      have hS : m + r = (ps.take (k + 1)).flatten.length := by rw [flat_take_succ hl, List.length_append, hr, HM.out]
      have HS : Hid (m + r = (ps.take (k + 1)).flatten.length) := hS
      clear hS
      have hmr : m + r ≤ 3000 := by rw [HS.out]; exact Nat.le_trans (flat_take_le _ _) HNF.out
      clear hr h3 hl
      have hlt' : (k : Int) < n := by omega
      have hw : IntKind.wrap .i64 ((m : Int) + (r : Int)) = (m : Int) + (r : Int) := by rw [IntKind.wrap_i64]; omega
      have hneg : ¬ ((m : Int) + (r : Int) < 0) := by omega
      go_wp2
      go_roundw
      case rel => exact ⟨k + 1, m + r, by omega, by go_num, by go_num, HS.out, by simp⟩
      case measure => simp [intOf]; omega
    · obtain rfl : k = n := by omega
      have hM2 : m = ps.flatten.length := by rw [HM.out, HNN.out, List.take_length]
      have HM2 : Hid (m = ps.flatten.length) := hM2
      clear hM2
      go_wp2_with fail
      refine (HGR.out m _ (by rw [HM2.out]; exact HNF.out)).mono ?_
      rintro e w1 ⟨a1, c1, rfl, ho, hb⟩
      have HO : Hid (w1.ownsRow w.heap.size 9 1 (.slice a1 0 c1) ([] : List ByteArray).length (sc []) ∧ Below w.heap.size w w1) := ⟨ho, hb⟩
      clear ho hb hlt
      go_wp2
      go_loopw [6, 27] (fun s i wr => ∃ (j N : Nat) (a : Option Addr) (c : Nat), j ≤ k ∧ i = .int .i64 (j : Int) ∧ s = .slice a N c ∧ N = (ps.take j).flatten.length ∧ wr.ownsRow w.heap.size 9 1 (.slice a N c) (ps.take j).flatten.length (sc (ps.take j).flatten) ∧ Below w.heap.size w wr) (fun s i _ => k - (intOf i).toNat)
      case atStart => exact ⟨0, 0, _, _, Nat.zero_le _, rfl, rfl, by simp, by simpa using HO.out.1, HO.out.2⟩
      case round =>
        obtain ⟨j, N, a, c, hj, rfl, rfl, hN, ho, hb⟩ := hrel
        obtain ⟨L, hL⟩ : ∃ L, L = (ps.take j).flatten := ⟨_, rfl⟩
        rw [← hL] at ho hN
        have HL : Hid (L = (ps.take j).flatten) := hL
        have HNL : Hid (N = L.length) := hN
        have HO2 : Hid (wr.ownsRow w.heap.size 9 1 (.slice a N c) L.length (sc L) ∧ Below w.heap.size w wr) := ⟨ho, hb⟩
        clear ho hb hL hN
        by_cases hlt : j < k
        · obtain ⟨l, hl⟩ : ∃ l, ps[j]? = some l := ⟨ps[j]'(by rw [← HNN.out]; exact hlt), List.getElem?_eq_getElem _⟩
          obtain ⟨a2, c2, u, h1, rfl, h3⟩ := HC.out j l hl
          obtain ⟨r, hr⟩ : ∃ r, r = l.length := ⟨_, rfl⟩
          rw [← hr] at h1 h3
          have HS : Hid (L ++ l = (ps.take (j + 1)).flatten ∧ Src w (.slice a2 r c2) l) := ⟨by rw [flat_take_succ hl, HL.out], h3⟩
          clear h3 hl hr
          have hlt' : (j : Int) < k := by omega
          have d1 : wr.cell? ⟨g, o + j, none⟩ = some (.slice a2 r c2) := Below.kept HO2.out.2 h1
          clear h1
          go_wp2_with (at_builtin; refine append_strs rfl _ _ rfl w.heap.size (.slice a N c) (.slice a2 r c2) L l wr rfl rfl HO2.out.1 HO2.out.2.size (HS.out.2.below HO2.out.2) (by rw [← List.length_append, HS.out.1]; exact Nat.le_trans (flat_take_le _ _) HNF.out) ?_)
          intro v' w2 ho hb
          have hl3 : (L ++ l).length = (ps.take (j + 1)).flatten.length := by rw [HS.out.1]
          obtain ⟨N3, hN3⟩ : ∃ N3, N3 = (ps.take (j + 1)).flatten.length := ⟨_, rfl⟩
          have ho3 : w2.ownsRow w.heap.size 9 1 v' N3 (sc (ps.take (j + 1)).flatten) := by
            rw [hN3, ← hl3, ← HS.out.1, List.length_append]
            exact ho
          obtain ⟨a3, c3, e3, _⟩ := row_form ho3
          subst e3
          have HO3 : Hid (N3 = (ps.take (j + 1)).flatten.length ∧ w2.ownsRow w.heap.size 9 1 (.slice a3 N3 c3) N3 (sc (ps.take (j + 1)).flatten) ∧ Below w.heap.size w w2) := ⟨hN3, ho3, HO2.out.2.trans hb⟩
          clear ho hb ho3 hN3 hl3
          go_wp2
          go_roundw
          case rel => exact ⟨j + 1, N3, a3, c3, by omega, by go_num, rfl, HO3.out.1, by rw [← HO3.out.1]; exact HO3.out.2.1, HO3.out.2.2⟩
          case measure => simp [intOf]; omega
        · obtain rfl : j = k := by omega
          have hF : L = ps.flatten := by rw [HL.out, HNN.out, List.take_length]
          have HF : Hid (L = ps.flatten) := hF
          clear hF
          go_wp2
          go_ret
          have hNF : N = ps.flatten.length := by rw [HNL.out, HF.out]
          have ho := HO2.out.1
          rw [HF.out] at ho
          subst hNF
          exact ⟨a, c, rfl, ho, HO2.out.2⟩
end Go.Proofs.YtfcbdjjbchcpjaaDoor
