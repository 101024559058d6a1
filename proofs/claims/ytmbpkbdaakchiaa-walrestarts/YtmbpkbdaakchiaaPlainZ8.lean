/- What a scan's frames have to do with the bytes; what a base and a log on a disk are: plain reckoning, no program. -/
import Derived.Test.YtmbpkbdaakchiaaPlainY8
namespace Go.Proofs.Ytmbpkbdaakchiaa.Fr

theorem one_says {b r : List UInt8} (h : one b = .ok r) : r.length ≤ 20000 ∧ 12 + r.length ≤ b.length := by
  unfold one at h
  split at h
  · cases h
  · split at h
    · cases h
    · split at h
      · cases h
      · split at h
        · cases h
        · rename_i h1 h2 h3 h4
          simp only [Except.ok.injEq] at h
          rw [← h, List.length_take, List.length_drop]
          omega

theorem scan_says : ∀ (n : Nat) (b : List UInt8), b.length ≤ n → (frames (scan b).1).length = (scan b).2.1 ∧ (scan b).2.1 ≤ b.length ∧ (∀ r ∈ (scan b).1, r.length ≤ 20000) ∧ (scan b).1.length * 12 ≤ b.length
  | 0, b, h => by
    obtain rfl : b = [] := List.length_eq_zero_iff.1 (by omega)
    rw [scan_nil]
    simp [frames]
  | n + 1, b, h => by
    by_cases h0 : b = []
    · subst h0
      rw [scan_nil]
      simp [frames]
    · cases ho : one b with
      | error z =>
        rw [scan_bad h0 ho]
        simp [frames]
      | ok r =>
        have h1 := one_says ho
        obtain ⟨i1, i2, i3, i4⟩ := scan_says n (b.drop (12 + r.length)) (by rw [List.length_drop]; omega)
        rw [List.length_drop] at i2 i4
        rw [scan_ok h0 ho]
        refine ⟨?_, ?_, ?_, ?_⟩
        · rw [frames_cons, List.length_append, frame_len, i1]
        · simp only []
          omega
        · intro x hx
          rcases List.mem_cons.1 hx with rfl | hx
          · exact h1.1
          · exact i3 x hx
        · simp only [List.length_cons]
          omega
end Go.Proofs.Ytmbpkbdaakchiaa.Fr
namespace Go.Proofs.Ytmbpkbdaakchiaa

theorem size_mem8 {f : Dq.Fl} : ∀ {fs : List Dq.Fl}, f ∈ fs → f.b.length ≤ Dq.size fs
  | [], h => by cases h
  | a :: fs, h => by
    have e : Dq.size (a :: fs) = a.b.length + Dq.size fs := by simp [Dq.size]
    rw [e]
    rcases List.mem_cons.1 h with rfl | h
    · omega
    · have := size_mem8 h
      omega
theorem read_len8 {st : Dq.St} (h : Dq.Ok st) (s : ByteArray) : (Dq.read st s).1.length ≤ st.room := by
  unfold Dq.read
  split
  · cases hg : Dq.get s st.fs with
    | none => simp
    | some f =>
      have h1 := size_mem8 (Dq.get_some hg).1
      have h2 := h.fits
      simp only [Option.map_some, Option.getD_some]
      omega
  · simp

/-- A reader of eight bytes reads all. -/
theorem read_all8 (r : List UInt8) : (!(Pk.rI r false).2.2 && (Pk.rI r false).2.1.isEmpty) = decide (r.length = 8) := by
  unfold Pk.rI
  split
  · rename_i h
    simp only [Bool.not_false, Bool.true_and]
    by_cases e : r.length = 8
    · rw [decide_eq_true e]
      simp only [List.isEmpty_iff, List.drop_eq_nil_iff]
      omega
    · rw [decide_eq_false e]
      simp only [List.isEmpty_eq_false_iff, ne_eq, List.drop_eq_nil_iff]
      omega
  · rename_i h
    have e : ¬ r.length = 8 := by omega
    simp [e]

/-- What base answers. -/
def baseE (st : Dq.St) : Int × Int := if st.off then (0, 10) else match Wq.base st with
  | none => (0, 3)
  | some n => (n, 0)
theorem read_off {st : Dq.St} (h : st.off = true) (s : ByteArray) : Dq.read st s = ([], 10) := by unfold Dq.read Dq.err; rw [h]; rfl
theorem read_on {st : Dq.St} {s : ByteArray} (h : st.off = false) (hm : Dq.may s = true) : (Dq.read st s).2 = 0 ∨ Dq.read st s = ([], 4) := by
  unfold Dq.read
  rcases Wq.err_on h hm with e | e
  · left; rw [e]; rfl
  · right; rw [e]; rfl
theorem base_none {st : Dq.St} (h : st.off = false) (hr : Dq.read st Wq.baseN = ([], 4)) : baseE st = (1, 0) := by
  unfold baseE Wq.base
  rw [h, hr]
  rfl
theorem base_eq {st : Dq.St} (h : st.off = false) (h0 : (Dq.read st Wq.baseN).2 = 0) : baseE st = match (if (Fr.scan (Dq.read st Wq.baseN).1).2.2 = 0 then
      match (Fr.scan (Dq.read st Wq.baseN).1).1 with
      | [r] => if r.length = 8 ∧ 1 ≤ (Pk.rI r false).1 ∧ (Pk.rI r false).1 ≤ 1099511627776 then some (Pk.rI r false).1 else none
      | _ => none
    else none) with
    | none => (0, 3)
    | some n => (n, 0) := by
  unfold baseE Wq.base
  rw [h, if_pos h0]
  rfl
theorem base_many {st : Dq.St} (h : st.off = false) (h0 : (Dq.read st Wq.baseN).2 = 0) (hl : (Fr.scan (Dq.read st Wq.baseN).1).1.length ≠ 1) : baseE st = (0, 3) := by
  rw [base_eq h h0]
  generalize (Fr.scan (Dq.read st Wq.baseN).1).1 = rs at *
  match rs, hl with
  | [], _ => split <;> simp_all
  | [r], hl => exact absurd rfl hl
  | a :: b :: t, _ => split <;> simp_all
theorem base_torn {st : Dq.St} (h : st.off = false) (h0 : (Dq.read st Wq.baseN).2 = 0) (hl : ¬ (Fr.scan (Dq.read st Wq.baseN).1).2.2 = 0) : baseE st = (0, 3) := by
  rw [base_eq h h0, if_neg hl]
theorem base_one {st : Dq.St} {r : List UInt8} (h : st.off = false) (h0 : (Dq.read st Wq.baseN).2 = 0) (hs : (Fr.scan (Dq.read st Wq.baseN).1).2.2 = 0) (hl : (Fr.scan (Dq.read st Wq.baseN).1).1 = [r]) :
    baseE st = if r.length = 8 ∧ 1 ≤ (Pk.rI r false).1 ∧ (Pk.rI r false).1 ≤ 1099511627776 then ((Pk.rI r false).1, 0) else (0, 3) := by
  rw [base_eq h h0, if_pos hs, hl]
  simp only []
  by_cases hc : r.length = 8 ∧ 1 ≤ (Pk.rI r false).1 ∧ (Pk.rI r false).1 ≤ 1099511627776
  · rw [if_pos hc, if_pos hc]
  · rw [if_neg hc, if_neg hc]

/-- What base's answers say of Open. -/
theorem opn_base {st : Dq.St} (h : (baseE st).2 ≠ 0) : Wq.opn st = ((baseE st).2, none, st) := by
  unfold baseE at h ⊢
  unfold Wq.opn
  cases ho : st.off with
  | true => rfl
  | false =>
    rw [ho] at h
    cases hb : Wq.base st with
    | none => rfl
    | some n => rw [hb] at h; exact absurd rfl h
theorem base_ok {st : Dq.St} (h : (baseE st).2 = 0) : st.off = false ∧ Wq.base st = some (baseE st).1 ∧ 1 ≤ (baseE st).1 ∧ (baseE st).1 ≤ 1099511627776 := by
  unfold baseE at h ⊢
  cases ho : st.off with
  | true => rw [ho, if_pos rfl] at h; exact absurd h (by decide)
  | false =>
    rw [ho] at h
    cases hb : Wq.base st with
    | none => rw [hb, if_neg (by decide)] at h; exact absurd h (by decide)
    | some n =>
      refine ⟨rfl, rfl, ?_⟩
      show 1 ≤ n ∧ n ≤ 1099511627776
      unfold Wq.base at hb
      split at hb
      · split at hb
        · split at hb
          · split at hb
            · rename_i hh
              simp only [Option.some.injEq] at hb
              rw [← hb]
              exact hh.2
            · cases hb
          · cases hb
        · cases hb
      · simp only [Option.some.injEq] at hb
        rw [← hb]
        decide
theorem opn_log {st : Dq.St} {n : Int} (ho : st.off = false) (hb : Wq.base st = some n) : Wq.opn st =
    if (Dq.read st Wq.logN).2 ≠ 0 then (0, some ⟨n, [], st.lives, false⟩, st)
    else if (Fr.scan (Dq.read st Wq.logN).1).2.2 = 2 then (3, none, st)
    else (0, some ⟨n, (Fr.scan (Dq.read st Wq.logN).1).1, st.lives, false⟩, if (Fr.scan (Dq.read st Wq.logN).1).2.2 = 1 then (Dq.cut st Wq.logN (Fr.scan (Dq.read st Wq.logN).1).2.1).2 else st) := by
  unfold Wq.opn
  rw [ho, hb]
  rfl
theorem opn_log2 {st : Dq.St} {n : Int} (ho : st.off = false) (hb : Wq.base st = some n) : Wq.opn st =
    if (Fr.scan (Dq.read st Wq.logN).1).2.2 = 2 then (3, none, st)
    else (0, some ⟨n, (Fr.scan (Dq.read st Wq.logN).1).1, st.lives, false⟩, if (Fr.scan (Dq.read st Wq.logN).1).2.2 = 1 then (Dq.cut st Wq.logN (Fr.scan (Dq.read st Wq.logN).1).2.1).2 else st) := by
  rw [opn_log ho hb]
  rcases read_on ho Wq.may_log with h | h
  · rw [if_neg (fun e => e h)]
  · rw [h, if_pos (by decide)]
    rfl
theorem cut_used {st : Dq.St} (ho : st.off = false) (h1 : (Fr.scan (Dq.read st Wq.logN).1).2.2 = 1) : (Dq.cut st Wq.logN (Fr.scan (Dq.read st Wq.logN).1).2.1).1 = 0 := by
  rcases Wq.err_on ho Wq.may_log with e | e
  · have hr : (Dq.read st Wq.logN).1 = ((Dq.get Wq.logN st.fs).map (·.b)).getD [] := by unfold Dq.read; rw [if_pos e]
    have hs := (Fr.scan_says _ (Dq.read st Wq.logN).1 (Nat.le_refl _)).2.1
    unfold Dq.cut
    rw [if_pos e, if_neg (by rw [← hr]; omega)]
  · exfalso
    have hr : (Dq.read st Wq.logN).1 = [] := by unfold Dq.read; rw [if_neg (by rw [e]; decide)]
    rw [hr, Fr.scan_nil] at h1
    cases h1
end Go.Proofs.Ytmbpkbdaakchiaa
