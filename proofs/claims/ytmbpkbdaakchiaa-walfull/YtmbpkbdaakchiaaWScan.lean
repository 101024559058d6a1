/- What frame.Scan answers. -/
import Derived.Test.YtmbpkbdaakchiaaWFirst
namespace Go.Proofs.Ytmbpkbdaakchiaa
open Go.RowKit

theorem Lo.nz {w : World} {B : Nat} {v : Value} {ls : List (List UInt8)} (h : Lo w B v ls) : Nz v := by
  obtain ⟨us, h1, _⟩ := h
  intro k c hv
  rcases h1.2 with ⟨rfl, _⟩ | ⟨g, cap, cur, rfl, _⟩
  · simp only [Value.slice.injEq, true_and] at hv
    exact ⟨hv.1.symm, hv.2.symm⟩
  · simp at hv

theorem scan_end' {xs rs : List UInt8} {ls : List (List UInt8)} {k q : Nat} (h : Fr.scan xs = (ls ++ (Fr.scan rs).1, k + (Fr.scan rs).2.1, (Fr.scan rs).2.2)) (hs : Fr.scan rs = ([], 0, q)) : Fr.scan xs = (ls, k, q) := by
  rw [h, hs]
  simp

theorem scan_on' {xs rs r : List UInt8} {ls : List (List UInt8)} {k : Nat} (h : Fr.scan xs = (ls ++ (Fr.scan rs).1, k + (Fr.scan rs).2.1, (Fr.scan rs).2.2)) (h0 : rs ≠ []) (hs : Fr.one rs = .ok r) :
    Fr.scan xs = ((ls ++ [r]) ++ (Fr.scan (rs.drop (12 + r.length))).1, (k + (12 + r.length)) + (Fr.scan (rs.drop (12 + r.length))).2.1, (Fr.scan (rs.drop (12 + r.length))).2.2) := by
  rw [h, Fr.scan_ok h0 hs]
  simp only [List.append_assoc, List.singleton_append, Prod.mk.injEq, true_and, and_true]
  omega

theorem one_len {rs r : List UInt8} (h : Fr.one rs = .ok r) : 12 + r.length ≤ rs.length := by
  unfold Fr.one at h
  split at h
  · cases h
  · split at h
    · cases h
    · split at h
      · cases h
      · split at h
        · cases h
        · simp only [Except.ok.injEq] at h
          rw [← h, List.length_take, List.length_drop]
          omega

set_option maxRecDepth 20000 in
set_option maxHeartbeats 4000000 in
/-- Scan: its records are rows of its own. -/
theorem scan_own (v : Value) (xs : List UInt8) (w : World) (hb : Bs w v xs) (hN : xs.length ≤ 100000) :
    Calls Try.prog 24 #[v] w fun e w' => ∃ l, e = .returned (.tuple #[l, .int .i64 ((Fr.scan xs).2.1 : Int), .int .i64 ((Fr.scan xs).2.2 : Int)]) ∧ Lo w' w.heap.size l (Fr.scan xs).1 ∧ Below w.heap.size w w' := by
  have HV : Hid (Bs w v xs) := hb
  obtain ⟨ao, n, c, rfl, hn, hsl⟩ := hb
  have HN : Hid (n = xs.length ∧ n ≤ c) := ⟨hn, by rw [hn]; exact hsl.cap⟩
  have hn1 : n ≤ 100000 := by omega
  clear hn hsl hN
  go_enter Try.func24, Try.ntmps24
  go_wp2
  go_loopw [2, 3] (fun l i wr => ∃ (k : Nat) (ls : List (List UInt8)), k ≤ n ∧ i = .int .i64 (k : Int) ∧ Fr.scan xs = (ls ++ (Fr.scan (xs.drop k)).1, k + (Fr.scan (xs.drop k)).2.1, (Fr.scan (xs.drop k)).2.2) ∧ ls.length ≤ k ∧ Lo wr w.heap.size l ls ∧ Below w.heap.size w wr) (fun _ i _ => ((n : Int) - intOf i).toNat)
  case atStart => exact ⟨0, [], Nat.zero_le _, rfl, by simp, by simp, Lo.nil _ _, Below.refl _ _⟩
  case round =>
    obtain ⟨k, ls, hk, rfl, hsc, hll, hL, hb⟩ := hrel
    have HSC : Hid (Fr.scan xs = (ls ++ (Fr.scan (xs.drop k)).1, k + (Fr.scan (xs.drop k)).2.1, (Fr.scan (xs.drop k)).2.2)) := hsc
    have HLL : Hid (ls.length ≤ k) := hll
    have HL : Hid (Lo wr w.heap.size u2 ls) := hL
    have HB : Hid (Below w.heap.size w wr) := hb
    clear hsc hll hL hb
    by_cases hlt : k < n
    · have hlt' : (k : Int) < (n : Int) := by omega
      have hvw := HV.out.below HB.out
      have h0 : 0 < xs.length := by rw [← HN.out.1]; omega
      obtain ⟨g, o, n', c', hv', hq1, hq2, hq3⟩ := hvw.plain h0
      clear hq1 hq2 hq3
      simp only [Value.slice.injEq] at hv'
      obtain ⟨rfl, rfl, rfl⟩ := hv'
      have hkc : ¬ c = k := by have := HN.out.2; omega
      have hkc2 : (k : Int) ≤ (c : Int) := by have := HN.out.2; omega
      obtain ⟨rs, hrs⟩ : ∃ rs, rs = xs.drop k := ⟨_, rfl⟩
      have HR : Hid (Bs wr (.slice (some ⟨g, o + k, none⟩) (n - k) (c - k)) rs ∧ rs.length = n - k ∧ rs = xs.drop k) := ⟨by rw [hrs]; exact hvw.drop (by omega), by rw [hrs, List.length_drop, ← HN.out.1], hrs⟩
      clear hvw hrs h0
      have HR0 : Hid (rs ≠ []) := fun e => by have := HR.out.2.1; rw [e] at this; simp at this; omega
      have HSC2 : Hid (Fr.scan xs = (ls ++ (Fr.scan rs).1, k + (Fr.scan rs).2.1, (Fr.scan rs).2.2)) := by
        have h := HSC.out
        rw [← HR.out.2.2] at h
        exact h
      go_wp2_with fail
      refine (first_any _ rs _ HR.out.1 (by rw [HR.out.2.1]; omega) (by rw [HR.out.2.1]; omega)).mono ?_
      rintro e w1 ⟨hb, hcase⟩
      have HB1 : Hid (Below w.heap.size w w1) := HB.out.trans (hb.mono HB.out.size)
      have HL1 : Hid (Lo w1 w.heap.size u2 ls) := HL.out.grown hb
      clear hb
      rcases hcase with ⟨h, ho, hh, rfl⟩ | ⟨u, r, ho, hbu, hrl, rfl⟩
      · have HE : Hid (Fr.scan xs = (ls, k, h)) := scan_end' HSC2.out (Fr.scan_bad HR0.out ho)
        have hh0 : ¬ (h : Int) = 0 := by omega
        clear ho hh
        go_wp2
        go_ret3
        rw [HE.out]
        exact ⟨_, rfl, HL1.out, HB1.out⟩
      · have HE : Hid (Fr.scan xs = ((ls ++ [r]) ++ (Fr.scan (xs.drop (k + (12 + r.length)))).1, (k + (12 + r.length)) + (Fr.scan (xs.drop (k + (12 + r.length)))).2.1, (Fr.scan (xs.drop (k + (12 + r.length)))).2.2)) := by
          have h := scan_on' HSC2.out HR0.out ho
          rw [HR.out.2.2, List.drop_drop] at h
          exact h
        have hrn : k + (12 + r.length) ≤ n := by have h1 := one_len ho; have h2 := HR.out.2.1; omega
        have HU : Hid (Bs w1 u r) := hbu
        obtain ⟨au, m, cu, rfl, hm, _⟩ := hbu
        rw [← hm] at HE hrn
        have HM : Hid (m = r.length) := hm
        clear ho hrl hm
        go_wp2_with (at_make; refine make_room rfl _ _ rfl m w1 rfl rfl (by omega) ?_)
        intro w2 ho hb
        have HO2 : Hid (w2.ownsRow w1.heap.size 5 1 (.slice (some ⟨w1.heap.size, 0, none⟩) 0 m) 0 (bc [])) := ho
        have HS2 : Hid (Below w1.heap.size w1 w2) := hb
        have HL2 : Hid (Lo w2 w.heap.size u2 ls) := HL1.out.grown hb
        have HB2 : Hid (Below w.heap.size w w2) := HB1.out.trans (hb.mono HB1.out.size)
        clear ho hb
        go_wp2_with (at_builtin; refine append_bs rfl _ _ rfl w1.heap.size (.slice (some ⟨w1.heap.size, 0, none⟩) 0 m) (.slice au m cu) 0 [] r w2 rfl rfl HO2.out HS2.out.size (HU.out.below HS2.out) (by rw [← HM.out]; omega) ?_)
        intro v3 w3 ho hb
        have HB13 : Hid (Below w1.heap.size w1 w3) := HS2.out.trans hb
        have HO3 : Hid (w3.ownsRow w.heap.size 5 1 v3 r.length (bc r)) := by
          have h : w3.ownsRow w1.heap.size 5 1 v3 r.length (bc r) := by simpa using ho
          exact h.mono HB1.out.size
        obtain ⟨a3, c3, rfl⟩ := own_shape HO3.out
        have HL3 : Hid (Lo w3 w.heap.size u2 ls) := HL1.out.grown HB13.out
        have HB3 : Hid (Below w.heap.size w w3) := HB1.out.trans (HB13.out.mono HB1.out.size)
        clear ho hb
        go_wp2_with (at_builtin; refine append_row rfl _ _ rfl w.heap.size u2 (.slice a3 r.length c3) ls r w3 rfl rfl HL3.out HO3.out HB3.out.size (by have := HLL.out; omega) ?_)
        intro v5 w5 hlo hb
        have HL5 : Hid (Lo w5 w.heap.size v5 (ls ++ [r])) := hlo
        have HB5 : Hid (Below w.heap.size w w5) := HB3.out.trans hb
        clear hlo hb
        go_wp2
        go_roundw
        case rel => exact ⟨k + (12 + m), ls ++ [r], by omega, by go_num, HE.out, by have := HLL.out; simp; omega, HL5.out, HB5.out⟩
        case measure => simp [intOf]; omega
    · have hlt' : ¬ (k : Int) < (n : Int) := by omega
      have HE : Hid (Fr.scan xs = (ls, k, 0)) := scan_end' HSC.out (by
        have : xs.drop k = [] := List.drop_eq_nil_iff.2 (by rw [← HN.out.1]; omega)
        rw [this]
        exact Fr.scan_nil)
      go_wp2
      go_ret3
      rw [HE.out]
      exact ⟨_, rfl, HL.out, HB.out⟩

theorem scan_any : ScanSpec := fun v xs w hb hN => (scan_own v xs w hb hN).mono (by
  rintro e w' ⟨l, rfl, h1, h2⟩
  exact ⟨l, rfl, h1.bl, h1.nz, h2⟩)
end Go.Proofs.Ytmbpkbdaakchiaa
