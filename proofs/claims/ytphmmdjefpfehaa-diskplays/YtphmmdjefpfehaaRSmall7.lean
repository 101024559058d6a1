/- What the reference's May, find, ask, Size, On and Read answer. -/
import Derived.Test.YtphmmdjefpfehaaRef7
namespace Go.Proofs.Ytphmmdjefpfehaa.Dq

/-- Where a file of that name stands. -/
def ix (s : ByteArray) (fs : List Fl) : Option Nat := fs.findIdx? fun f => decide (f.name = s)
/-- The place as a number; -1 where there is none. -/
def at_ (s : ByteArray) (fs : List Fl) : Int := match ix s fs with | some i => (i : Int) | none => -1

theorem ix_hit {s : ByteArray} {fs : List Fl} {k : Nat} {f : Fl} (hf : fs[k]? = some f) (hn : f.name = s) (hb : ∀ (j : Nat) g, j < k → fs[j]? = some g → g.name ≠ s) : ix s fs = some k := by
  unfold ix
  rw [List.findIdx?_eq_some_iff_getElem]
  obtain ⟨hlt, he⟩ := List.getElem?_eq_some_iff.1 hf
  refine ⟨hlt, by rw [he]; simp [hn], fun j hj => ?_⟩
  have := hb j fs[j] hj (List.getElem?_eq_getElem (by omega))
  simpa using this
theorem ix_miss {s : ByteArray} {fs : List Fl} (h : ∀ (j : Nat) g, fs[j]? = some g → g.name ≠ s) : ix s fs = none := by
  unfold ix
  rw [List.findIdx?_eq_none_iff]
  intro f hf
  obtain ⟨j, hj⟩ := List.getElem?_of_mem hf
  simpa using h j f hj
theorem ix_some {s : ByteArray} {fs : List Fl} {i : Nat} (h : ix s fs = some i) : ∃ f, fs[i]? = some f ∧ f.name = s ∧ get s fs = some f ∧ ∀ (j : Nat) g, j < i → fs[j]? = some g → g.name ≠ s := by
  unfold ix at h
  rw [List.findIdx?_eq_some_iff_getElem] at h
  obtain ⟨hlt, h1, h2⟩ := h
  refine ⟨fs[i], List.getElem?_eq_getElem hlt, by simpa using h1, ?_, fun j g hj hg => ?_⟩
  · unfold get
    rw [List.find?_eq_some_iff_getElem]
    refine ⟨by simpa using h1, i, hlt, rfl, fun j hj => ?_⟩
    have := h2 j hj
    simpa using this
  · have := h2 j hj
    rw [← (List.getElem?_eq_some_iff.1 hg).2]
    simpa using this
theorem ix_none {s : ByteArray} {fs : List Fl} (h : ix s fs = none) : get s fs = none := by
  unfold ix at h
  unfold get
  rw [List.findIdx?_eq_none_iff] at h
  exact List.find?_eq_none.2 fun f hf => by have := h f hf; simpa using this
theorem at_none {s : ByteArray} {fs : List Fl} (h : get s fs = none) : at_ s fs = -1 ∧ ix s fs = none := by
  unfold at_
  cases e : ix s fs with
  | none => exact ⟨rfl, rfl⟩
  | some i =>
    obtain ⟨f, _, _, hg, _⟩ := ix_some e
    rw [hg] at h
    cases h
theorem at_some {s : ByteArray} {fs : List Fl} {f : Fl} (h : get s fs = some f) : ∃ i : Nat, at_ s fs = (i : Int) ∧ ix s fs = some i ∧ fs[i]? = some f := by
  cases e : ix s fs with
  | none => rw [ix_none e] at h; cases h
  | some i =>
    obtain ⟨g, h1, _, h2, _⟩ := ix_some e
    rw [h2] at h
    cases h
    exact ⟨i, by unfold at_; rw [e], rfl, h1⟩

theorem may_all {s : ByteArray} (h1 : 1 ≤ s.size) (h2 : s.size ≤ 20) : may s = s.data.toList.all fun c => decide (33 ≤ c.toNat) && decide (c.toNat ≤ 126) := by
  unfold may
  rw [decide_eq_true h1, decide_eq_true h2]
  rfl
end Go.Proofs.Ytphmmdjefpfehaa.Dq
namespace Go.Proofs.Ytphmmdjefpfehaa
open Go.RowKit

theorem take_snoc7 (s : ByteArray) (k : Nat) (h : k < s.size) : s.data.toList.take (k + 1) = s.data.toList.take k ++ [s[k]] := by
  rw [List.take_succ_eq_append_getElem (by simpa using h)]; rfl

set_option maxRecDepth 20000 in
set_option maxHeartbeats 1000000 in
theorem may_any (s : ByteArray) (w : World) (hs : s.size ≤ 9223372036854775807) :
    Calls Try.prog 41 #[.string s] w fun e w' => e = .returned (.bool (Dq.may s)) ∧ w' = w := by
  by_cases h1 : (s.size : Int) < 1
  · have HF : Hid (Dq.may s = false) := by
      have h : Dq.may s = false := by unfold Dq.may; rw [decide_eq_false (by omega)]; rfl
      exact h
    go_enter Try.func41, Try.ntmps41
    go_wp2
    go_ret
    rw [HF.out]
    exact ⟨rfl, rfl⟩
  by_cases h2 : 20 < (s.size : Int)
  · have HF : Hid (Dq.may s = false) := by
      have h : Dq.may s = false := by unfold Dq.may; rw [decide_eq_false (p := s.size ≤ 20) (by omega)]; simp
      exact h
    go_enter Try.func41, Try.ntmps41
    go_wp2
    go_ret
    rw [HF.out]
    exact ⟨rfl, rfl⟩
  obtain ⟨r, hr⟩ : ∃ r, r = Dq.may s := ⟨_, rfl⟩
  rw [← hr]
  rw [Dq.may_all (by omega) (by omega)] at hr
  have HR : Hid (r = s.data.toList.all fun c => decide (33 ≤ c.toNat) && decide (c.toNat ≤ 126)) := hr
  clear hr
  go_enter Try.func41, Try.ntmps41
  go_wp2
  go_loopw [3] (fun i wr => ∃ k : Nat, k ≤ s.size ∧ i = .int .i64 k ∧ ((s.data.toList.take k).all fun c => decide (33 ≤ c.toNat) && decide (c.toNat ≤ 126)) = true ∧ wr = w) (fun i _ => s.size - (intOf i).toNat)
  case atStart => exact ⟨0, Nat.zero_le _, rfl, rfl, rfl⟩
  case round =>
    obtain ⟨k, hk, rfl, hall, hw⟩ := hrel
    subst hw
    have HA : Hid (((s.data.toList.take k).all fun c => decide (33 ≤ c.toNat) && decide (c.toNat ≤ 126)) = true) := hall
    clear hall
    by_cases hlt : k < s.size
    · have hts := take_snoc7 s k hlt
      have HS : Hid (s.data.toList.take (k + 1) = s.data.toList.take k ++ [s[k]]) := hts
      have HM : Hid (s[k] ∈ s.data.toList) := List.mem_of_mem_take (i := k + 1) (by rw [hts]; simp)
      clear hts
      have hlt' : (k : Int) < s.size := by omega
      by_cases b1 : (s[k].toNat : Int) < 33
      · have HF : Hid (r = false) := by
          have h : r = false := by
            rw [HR.out]
            exact List.all_eq_false.2 ⟨s[k], HM.out, by simp; omega⟩
          exact h
        go_wp2
        go_ret
        rw [HF.out]
        exact ⟨rfl, rfl⟩
      by_cases b2 : 126 < (s[k].toNat : Int)
      · have HF : Hid (r = false) := by
          have h : r = false := by
            rw [HR.out]
            exact List.all_eq_false.2 ⟨s[k], HM.out, by simp; omega⟩
          exact h
        go_wp2
        go_ret
        rw [HF.out]
        exact ⟨rfl, rfl⟩
      have HA2 : Hid (((s.data.toList.take (k + 1)).all fun c => decide (33 ≤ c.toNat) && decide (c.toNat ≤ 126)) = true) := by
        have h : ((s.data.toList.take (k + 1)).all fun c => decide (33 ≤ c.toNat) && decide (c.toNat ≤ 126)) = true := by
          rw [HS.out, List.all_append, HA.out]
          simp
          omega
        exact h
      go_wp2
      go_roundw
      case rel => exact ⟨k + 1, by omega, by go_num, HA2.out, trivial⟩
      case measure => simp [intOf]; omega
    · have hlt' : ¬ (k : Int) < s.size := by omega
      have HT : Hid (r = true) := by
        have h : r = true := by
          have h2 := HA.out
          rw [List.take_of_length_le (by simp; omega)] at h2
          rw [HR.out, h2]
        exact h
      go_wp2
      go_ret
      rw [HT.out]
      exact ⟨rfl, rfl⟩

/-- What the reference's calls that only look begin with. -/
theorem RefC.begin {w : World} {q : Nat} {st : Dq.St} {G : Nat → Prop} {v : Value} {ps : List (Dq.Fl × Value)} (h : RefC w q st G v ps) : ∃ av n cv, v = .slice av n cv ∧ n = ps.length ∧ n ≤ cv ∧ n = st.fs.length := by
  obtain ⟨a, c, rfl, hc⟩ := h.shape
  exact ⟨a, _, c, rfl, rfl, hc, h.len⟩

theorem RefC.file {w : World} {q : Nat} {st : Dq.St} {G : Nat → Prop} {v : Value} {ps : List (Dq.Fl × Value)} (h : RefC w q st G v ps) {i : Nat} {p : Dq.Fl × Value} (hp : ps[i]? = some p) : st.fs[i]? = some p.1 := by
  rw [← h.fs, List.getElem?_map, hp]
  rfl

theorem RefC.fileOf {w : World} {q : Nat} {st : Dq.St} {G : Nat → Prop} {v : Value} {ps : List (Dq.Fl × Value)} (h : RefC w q st G v ps) {i : Nat} {f : Dq.Fl} (hf : st.fs[i]? = some f) : ∃ bv, ps[i]? = some (f, bv) := by
  rw [← h.fs, List.getElem?_map] at hf
  obtain ⟨p, hp, rfl⟩ := Option.map_eq_some_iff.1 hf
  exact ⟨p.2, hp⟩

set_option maxRecDepth 20000 in
set_option maxHeartbeats 1000000 in
theorem find_any (q : Nat) (st : Dq.St) (G : Nat → Prop) (v : Value) (ps : List (Dq.Fl × Value)) (s : ByteArray) (w : World) (hR : RefC w q st G v ps) (hf : st.fs.length ≤ 1001) :
    Calls Try.prog 42 #[dptr q, .string s] w fun e w' => e = .returned (.int .i64 (Dq.at_ s st.fs)) ∧ w' = w := by
  have HR : Hid (RefC w q st G v ps) := hR
  obtain ⟨av, n, cv, rfl, hn, hcv, hns⟩ := hR.begin
  have HN : Hid (n = ps.length) := hn
  have hn1 : n ≤ 1001 := by omega
  clear hn hR hf hns
  obtain ⟨R, hr⟩ : ∃ R, R = Dq.at_ s st.fs := ⟨_, rfl⟩
  have HAT : Hid (R = Dq.at_ s st.fs) := hr
  rw [← hr]
  clear hr
  have hc1 := HR.out.c1
  go_enter Try.func42, Try.ntmps42
  go_wp2
  go_loopw [5] (fun i wr => ∃ k : Nat, k ≤ n ∧ i = .int .i64 (k : Int) ∧ (∀ (j : Nat) g, j < k → st.fs[j]? = some g → g.name ≠ s) ∧ wr = w) (fun i _ => ((n : Int) - intOf i).toNat)
  case atStart => exact ⟨0, Nat.zero_le _, rfl, fun j g hj => absurd hj (Nat.not_lt_zero _), rfl⟩
  case round =>
    obtain ⟨k, hk, rfl, hno, hw⟩ := hrel
    subst hw
    have HNO : Hid (∀ (j : Nat) g, j < k → st.fs[j]? = some g → g.name ≠ s) := hno
    clear hno
    by_cases hlt : k < n
    · have hlt' : (k : Int) < (n : Int) := by omega
      have hk0 : (0 : Int) ≤ (k : Int) := by omega
      obtain ⟨p, hp⟩ : ∃ p, ps[k]? = some p := ⟨ps[k]'(by rw [← HN.out]; exact hlt), List.getElem?_eq_getElem _⟩
      obtain ⟨g, cap, hv, hcap, _, _, f0, f1, f2, _⟩ := HR.out.fo.cell hp
      simp only [Value.slice.injEq] at hv
      obtain ⟨rfl, hq2, rfl⟩ := hv
      have HP : Hid (st.fs[k]? = some p.1) := HR.out.file hp
      clear hq2 hp hcap
      cases he : (p.1.name.toList == s.toList) with
      | true =>
        have HE : Hid (R = (k : Int)) := by
          have h : R = (k : Int) := by
            rw [HAT.out]
            unfold Dq.at_
            rw [Dq.ix_hit HP.out (bytes_eq he) HNO.out]
          exact h
        go_wp2
        go_ret
        rw [HE.out]
        exact ⟨rfl, rfl⟩
      | false =>
        have HNO2 : Hid (∀ (j : Nat) g, j < k + 1 → st.fs[j]? = some g → g.name ≠ s) := fun j g hj hg => by
          by_cases hjk : j < k
          · exact HNO.out j g hjk hg
          · obtain rfl : j = k := by omega
            have h := HP.out
            rw [hg] at h
            obtain rfl := Option.some.inj h
            intro e
            rw [e] at he
            simp at he
        go_wp2
        go_roundw
        case rel => exact ⟨k + 1, by omega, by go_num, HNO2.out, trivial⟩
        case measure => simp [intOf]; omega
    · have hlt' : ¬ (k : Int) < (n : Int) := by omega
      have HE : Hid (R = -1) := by
        have h : R = -1 := by
          rw [HAT.out]
          unfold Dq.at_
          rw [Dq.ix_miss (fun j g hg => HNO.out j g (by have := (List.getElem?_eq_some_iff.1 hg).1; have h2 := HR.out.len; have h3 := HN.out; omega) hg)]
        exact h
      go_wp2
      go_ret
      rw [HE.out]
      exact ⟨rfl, rfl⟩

/-- What ask answers of a name. -/
def askZ (st : Dq.St) (s : ByteArray) : Int := if Dq.err st s = 0 then Dq.at_ s st.fs else -1

set_option maxRecDepth 20000 in
set_option maxHeartbeats 1000000 in
theorem ask_any (q : Nat) (st : Dq.St) (G : Nat → Prop) (v : Value) (ps : List (Dq.Fl × Value)) (s : ByteArray) (w : World) (hR : RefC w q st G v ps) (hf : st.fs.length ≤ 1001) (hs : s.size ≤ 9223372036854775807) :
    Calls Try.prog 38 #[dptr q, .string s] w fun e w' => e = .returned (.tuple #[.int .i64 (askZ st s), .int .i64 (Dq.err st s)]) ∧ w' = w := by
  have HR : Hid (RefC w q st G v ps ∧ st.fs.length ≤ 1001) := ⟨hR, hf⟩
  have hc2 := hR.c2
  clear hR hf
  unfold askZ
  rcases Dq.err_cases st s with ⟨e, h1⟩ | ⟨e, h1, h2⟩ | ⟨e, h1, h2, h3⟩ | ⟨e, h1, h2, f, h3⟩
  · rw [e]
    rw [h1] at hc2
    simp only [Int.reduceEq, if_false]
    clear e h1
    go_enter Try.func38, Try.ntmps38
    go_wp2
    go_ret2
    exact ⟨rfl, rfl⟩
  · rw [e]
    rw [h1] at hc2
    simp only [Int.reduceEq, if_false]
    have HM : Hid (Dq.may s = false) := h2
    clear e h1 h2
    go_enter Try.func38, Try.ntmps38
    go_wp2_with fail
    refine (may_any s _ hs).mono ?_
    rintro e w2 ⟨rfl, hw⟩
    rw [hw, HM.out]
    clear hw
    go_wp2
    go_ret2
    exact ⟨rfl, rfl⟩
  · rw [e]
    rw [h1] at hc2
    simp only [Int.reduceEq, if_false]
    have HM : Hid (Dq.may s = true ∧ Dq.at_ s st.fs = -1) := ⟨h2, (Dq.at_none h3).1⟩
    clear e h1 h2 h3
    go_enter Try.func38, Try.ntmps38
    go_wp2_with fail
    refine (may_any s _ hs).mono ?_
    rintro e w2 ⟨rfl, hw⟩
    rw [hw, HM.out.1]
    clear hw
    go_wp2_with fail
    refine (find_any q st G v ps s _ HR.out.1 HR.out.2).mono ?_
    rintro e w3 ⟨rfl, hw⟩
    rw [hw, HM.out.2]
    clear hw
    go_wp2
    go_ret2
    exact ⟨rfl, rfl⟩
  · rw [e]
    rw [h1] at hc2
    simp only [if_true]
    obtain ⟨i, hi, _, _⟩ := Dq.at_some h3
    have HM : Hid (Dq.may s = true ∧ Dq.at_ s st.fs = (i : Int)) := ⟨h2, hi⟩
    rw [hi]
    clear e h1 h2 h3 hi
    have hi0 : ¬ (i : Int) < 0 := by omega
    go_enter Try.func38, Try.ntmps38
    go_wp2_with fail
    refine (may_any s _ hs).mono ?_
    rintro e w2 ⟨rfl, hw⟩
    rw [hw, HM.out.1]
    clear hw
    go_wp2_with fail
    refine (find_any q st G v ps s _ HR.out.1 HR.out.2).mono ?_
    rintro e w3 ⟨rfl, hw⟩
    rw [hw, HM.out.2]
    clear hw
    go_wp2
    go_ret2
    exact ⟨rfl, rfl⟩

theorem size_take {fs : List Dq.Fl} {k : Nat} {f : Dq.Fl} (h : fs[k]? = some f) : Dq.size (fs.take (k + 1)) = Dq.size (fs.take k) + f.b.length := by
  unfold Dq.size
  rw [List.take_add_one, h]
  simp
theorem size_le_take (fs : List Dq.Fl) (k : Nat) : Dq.size (fs.take k) ≤ Dq.size fs := by
  have e : Dq.size fs = Dq.size (fs.take k) + Dq.size (fs.drop k) := by
    conv => lhs; rw [← List.take_append_drop k fs]
    unfold Dq.size
    rw [List.map_append, List.sum_append]
  omega

set_option maxRecDepth 20000 in
set_option maxHeartbeats 1000000 in
theorem refSize_any (q : Nat) (st : Dq.St) (G : Nat → Prop) (v : Value) (ps : List (Dq.Fl × Value)) (w : World) (hR : RefC w q st G v ps) (hf : Fine st) :
    Calls Try.prog 39 #[dptr q] w fun e w' => e = .returned (.int .i64 (Dq.size st.fs : Int)) ∧ w' = w := by
  have HR : Hid (RefC w q st G v ps) := hR
  obtain ⟨av, n, cv, rfl, hn, hcv, hns⟩ := hR.begin
  have HN : Hid (n = ps.length ∧ n = st.fs.length) := ⟨hn, hns⟩
  have hn1 : n ≤ 1000 := by rw [hns]; exact hf.2.1
  have HB : Hid (∀ k, Dq.size (st.fs.take k) ≤ 1048576) := fun k => Nat.le_trans (size_le_take _ k) (Nat.le_trans hf.1.fits hf.1.room.2)
  clear hn hR hf hns
  have hc1 := HR.out.c1
  go_enter Try.func39, Try.ntmps39
  go_wp2
  go_loopw [3, 4] (fun z i wr => ∃ k m : Nat, k ≤ n ∧ i = .int .i64 (k : Int) ∧ z = .int .i64 (m : Int) ∧ m = Dq.size (st.fs.take k) ∧ wr = w) (fun _ i _ => ((n : Int) - intOf i).toNat)
  case atStart => exact ⟨0, 0, Nat.zero_le _, rfl, rfl, rfl, rfl⟩
  case round =>
    obtain ⟨k, m, hk, rfl, rfl, hm, hw⟩ := hrel
    subst hw
    have HM : Hid (m = Dq.size (st.fs.take k)) := hm
    clear hm
    by_cases hlt : k < n
    · have hlt' : (k : Int) < (n : Int) := by omega
      have hk0 : (0 : Int) ≤ (k : Int) := by omega
      obtain ⟨p, hp⟩ : ∃ p, ps[k]? = some p := ⟨ps[k]'(by rw [← HN.out.1]; exact hlt), List.getElem?_eq_getElem _⟩
      obtain ⟨g, cap, hv, hcap, _, _, f0, f1, f2, _⟩ := HR.out.fo.cell hp
      simp only [Value.slice.injEq] at hv
      obtain ⟨rfl, hq2, rfl⟩ := hv
      obtain ⟨ab, nb, cb, hbv, hnb, _⟩ := Bs.own (HR.out.fo.bytes p (List.mem_of_getElem? hp))
      rw [hbv] at f1
      have HP : Hid (Dq.size (st.fs.take (k + 1)) = m + nb) := by
        have h : Dq.size (st.fs.take (k + 1)) = m + nb := by rw [size_take (HR.out.file hp), ← HM.out, hnb]
        exact h
      have hsm : m + nb ≤ 1048576 := by rw [← HP.out]; exact HB.out _
      clear hq2 hp hcap hbv hnb
      go_wp2
      go_roundw
      case rel => exact ⟨k + 1, m + nb, by omega, by go_num, by go_num, HP.out.symm, trivial⟩
      case measure => simp [intOf]; omega
    · have hlt' : ¬ (k : Int) < (n : Int) := by omega
      have HE : Hid (m = Dq.size st.fs) := by
        have h : m = Dq.size st.fs := by rw [HM.out, List.take_of_length_le (by rw [← HN.out.2]; omega)]
        exact h
      go_wp2
      go_ret
      rw [HE.out]
      exact ⟨rfl, rfl⟩
end Go.Proofs.Ytphmmdjefpfehaa
