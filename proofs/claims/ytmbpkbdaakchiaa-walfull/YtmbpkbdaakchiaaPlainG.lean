/- Frames that are cut off, and frames with one byte changed: plain reckoning, no program. -/
import Derived.Test.YtmbpkbdaakchiaaPlainF
namespace Go.Proofs.Ytmbpkbdaakchiaa.Fr

theorem frames_app (l m : List (List UInt8)) : frames (l ++ m) = frames l ++ frames m := by simp [frames]
theorem frames_one (r : List UInt8) : frames [r] = frame r := by simp [frames]
theorem frames_snoc (l : List (List UInt8)) (r : List UInt8) : frames (l ++ [r]) = frames l ++ frame r := by rw [frames_app, frames_one]

theorem scan_whole (l : List (List UInt8)) (h : ∀ r ∈ l, r.length ≤ 20000) : scan (frames l) = (l, (frames l).length, 0) := by
  have := scan_frames l h []
  rw [List.append_nil] at this
  rw [this, scan_nil]
  simp

/-- Frames that are cut off: those ahead of the cut are there; what is cut off in its midst is torn. -/
theorem scan_cut (l : List (List UInt8)) (h : ∀ r ∈ l, r.length ≤ 20000) (cut w : Nat) (hw : w ≤ l.length) (hc : cut ≤ (frames l).length)
    (h1 : (frames (l.take w)).length ≤ cut) (h2 : w < l.length → cut < (frames (l.take (w + 1))).length) :
    scan ((frames l).take cut) = (l.take w, (frames (l.take w)).length, if cut = (frames (l.take w)).length then 0 else 1) := by
  have ht : ∀ r ∈ l.take w, r.length ≤ 20000 := fun r hr => h r (List.mem_of_mem_take hr)
  have e : frames l = frames (l.take w) ++ frames (l.drop w) := by rw [← frames_app, List.take_append_drop]
  have e2 : (frames l).take cut = frames (l.take w) ++ (frames (l.drop w)).take (cut - (frames (l.take w)).length) := by
    rw [e, List.take_append, List.take_of_length_le h1]
  rw [e2, scan_frames _ ht]
  by_cases hwl : w < l.length
  · have hd : l.drop w = l[w] :: l.drop (w + 1) := List.drop_eq_getElem_cons hwl
    have h3 := h2 hwl
    have e3 : l.take (w + 1) = l.take w ++ [l[w]] := by rw [List.take_add_one, List.getElem?_eq_getElem hwl]; rfl
    rw [e3, frames_snoc, List.length_append, frame_len] at h3
    have e4 : (frames (l.drop w)).take (cut - (frames (l.take w)).length) = (frame l[w]).take (cut - (frames (l.take w)).length) := by
      have e5 : frames (l.drop w) = frame l[w] ++ frames (l.drop (w + 1)) := by rw [hd]; rfl
      rw [e5, List.take_append_of_le_length (by rw [frame_len]; omega)]
    rw [e4]
    by_cases hz : cut = (frames (l.take w)).length
    · rw [if_pos hz, hz, Nat.sub_self, List.take_zero, scan_nil]
      simp
    · rw [if_neg hz, scan_bad (fun e => ?_) (one_cut l[w] _ (h _ (List.getElem_mem hwl)) (by omega))]
      · simp
      · have := congrArg List.length e
        rw [List.length_take, frame_len] at this
        simp at this
        omega
  · have ew : w = l.length := by omega
    have hz : cut = (frames (l.take w)).length := by
      rw [ew, List.take_length] at h1 ⊢
      omega
    rw [if_pos hz, hz, Nat.sub_self, List.take_zero, scan_nil]
    simp

theorem app_len_eq {a b c d : List UInt8} (h : a ++ b = c ++ d) (hl : a.length = c.length) : a = c ∧ b = d := List.append_inj h hl

/-- Twelve bytes and a record that are a frame's, but for one byte: broken. -/
theorem one_set (r : List UInt8) (j : Nat) (x : UInt8) (h : r.length ≤ 20000) (hj : j < 12 + r.length) (hx : ∀ y, (frame r)[j]? = some y → x ≠ y) : one ((frame r).set j x) = .error 2 := by
  have hl : ((frame r).set j x).length = 12 + r.length := by rw [List.length_set, frame_len]
  obtain ⟨A, hA⟩ : ∃ A, A = be4 r.length := ⟨_, rfl⟩
  obtain ⟨B, hB⟩ : ∃ B, B = be4 (4294967295 - r.length) := ⟨_, rfl⟩
  obtain ⟨S, hS⟩ : ∃ S, S = be4 (Cr.sum (head r.length ++ r)).toNat := ⟨_, rfl⟩
  have hAl : A.length = 4 := by rw [hA]; rfl
  have hBl : B.length = 4 := by rw [hB]; rfl
  have hSl : S.length = 4 := by rw [hS]; rfl
  have hf : frame r = A ++ (B ++ (S ++ r)) := by rw [hA, hB, hS]; unfold frame head; simp only [List.append_assoc]
  have hvA : Pk.val A = r.length := by rw [hA, val_be4 _ (by omega)]
  have hvB : Pk.val B = 4294967295 - r.length := by rw [hB, val_be4 _ (by omega)]
  unfold one
  rw [if_neg (by rw [hl]; omega)]
  by_cases h4 : j < 4
  · -- the first number
    have e : (frame r).set j x = A.set j x ++ (B ++ (S ++ r)) := by rw [hf, List.set_append_left _ _ (by omega)]
    have e1 : ((frame r).set j x).take 4 = A.set j x := by rw [e]; exact List.take_left' (by rw [List.length_set]; exact hAl)
    have e2 : (((frame r).set j x).drop 4).take 4 = B := by
      rw [e, List.drop_left' (by rw [List.length_set]; exact hAl)]
      exact List.take_left' hBl
    rw [e1, e2, if_pos]
    left
    intro hv
    have hlt : Pk.val (A.set j x) < 4294967296 := by
      have := Pk.val_lt (A.set j x)
      rw [List.length_set, hAl] at this
      omega
    have hv2 : Pk.val (A.set j x) = Pk.val A := by omega
    have hAe := val_inj4 (by rw [List.length_set]; exact hAl) hAl hv2
    have hjA : j < A.length := by omega
    have : (A.set j x)[j]? = A[j]? := by rw [hAe]
    rw [List.getElem?_set_self hjA, List.getElem?_eq_getElem hjA] at this
    refine hx A[j] ?_ (Option.some.inj this)
    rw [hf, List.getElem?_append_left hjA, List.getElem?_eq_getElem hjA]
  by_cases h8 : j < 8
  · -- the second
    have e : (frame r).set j x = A ++ (B.set (j - 4) x ++ (S ++ r)) := by rw [hf, List.set_append_right _ _ (by omega), hAl, List.set_append_left _ _ (by omega)]
    have e1 : ((frame r).set j x).take 4 = A := by rw [e]; exact List.take_left' hAl
    have e2 : (((frame r).set j x).drop 4).take 4 = B.set (j - 4) x := by
      rw [e, List.drop_left' hAl]
      exact List.take_left' (by rw [List.length_set]; exact hBl)
    rw [e1, e2, if_pos]
    left
    intro hv
    have hv2 : Pk.val (B.set (j - 4) x) = Pk.val B := by omega
    have hBe := val_inj4 (by rw [List.length_set]; exact hBl) hBl hv2
    have hjB : j - 4 < B.length := by omega
    have : (B.set (j - 4) x)[j - 4]? = B[j - 4]? := by rw [hBe]
    rw [List.getElem?_set_self hjB, List.getElem?_eq_getElem hjB] at this
    refine hx B[j - 4] ?_ (Option.some.inj this)
    rw [hf, List.getElem?_append_right (by omega), hAl, List.getElem?_append_left hjB, List.getElem?_eq_getElem hjB]
  -- both numbers are as they were
  obtain ⟨T, R, hTR, hTl, hRl, hd⟩ : ∃ T R, (frame r).set j x = A ++ (B ++ (T ++ R)) ∧ T.length = 4 ∧ R.length = r.length ∧ ((T ≠ S ∧ R = r) ∨ (T = S ∧ ∃ k, k < r.length ∧ R = r.set k x ∧ ∀ y, r[k]? = some y → x ≠ y)) := by
    by_cases h12 : j < 12
    · refine ⟨S.set (j - 8) x, r, ?_, by rw [List.length_set]; exact hSl, rfl, Or.inl ⟨fun hSe => ?_, rfl⟩⟩
      · rw [hf, List.set_append_right _ _ (by omega), hAl, List.set_append_right _ _ (by omega), hBl, List.set_append_left _ _ (by omega)]
        rfl
      · have hjS : j - 8 < S.length := by omega
        have : (S.set (j - 8) x)[j - 8]? = S[j - 8]? := by rw [hSe]
        rw [List.getElem?_set_self hjS, List.getElem?_eq_getElem hjS] at this
        refine hx S[j - 8] ?_ (Option.some.inj this)
        rw [hf, List.getElem?_append_right (by omega), hAl, List.getElem?_append_right (by omega), hBl, List.getElem?_append_left (by omega)]
        have e : j - 4 - 4 = j - 8 := by omega
        rw [e, List.getElem?_eq_getElem hjS]
    · have e : j - 4 - 4 - 4 = j - 12 := by omega
      refine ⟨S, r.set (j - 12) x, ?_, hSl, by rw [List.length_set], Or.inr ⟨rfl, j - 12, by omega, rfl, fun y hy => hx y ?_⟩⟩
      · rw [hf, List.set_append_right _ _ (by omega), hAl, List.set_append_right _ _ (by omega), hBl, List.set_append_right _ _ (by omega), hSl, e]
      · rw [hf, List.getElem?_append_right (by omega), hAl, List.getElem?_append_right (by omega), hBl, List.getElem?_append_right (by omega), hSl, e]
        exact hy
  have e1 : ((frame r).set j x).take 4 = A := by rw [hTR]; exact List.take_left' hAl
  have e2 : (((frame r).set j x).drop 4).take 4 = B := by rw [hTR, List.drop_left' hAl]; exact List.take_left' hBl
  have e3 : (((frame r).set j x).drop 12).take r.length = R := by
    have h12 : ((frame r).set j x) = (A ++ (B ++ T)) ++ R := by rw [hTR]; simp only [List.append_assoc]
    rw [h12, List.drop_left' (by rw [List.length_append, List.length_append]; omega), ← hRl, List.take_length]
  have e4 : ((frame r).set j x).take (12 + r.length) = A ++ (B ++ (T ++ R)) := by rw [← hl, List.take_length, hTR]
  rw [e1, e2, hvA, hvB, if_neg (by omega), if_neg (by rw [hl]; omega), e3, e4, if_pos]
  intro hfr
  have hf2 : frame R = A ++ (B ++ (be4 (Cr.sum (head r.length ++ R)).toNat ++ R)) := by unfold frame head; rw [hRl, hA, hB]; simp only [List.append_assoc]
  rw [hf2] at hfr
  have h5 := (app_len_eq (app_len_eq (app_len_eq hfr rfl).2 rfl).2 (by rw [hTl]; rfl)).1
  rcases hd with ⟨hne, hRr⟩ | ⟨hTS, k, hk, hRk, hxk⟩
  · rw [hRr, ← hS] at h5
    exact hne h5.symm
  · rw [hTS, hS] at h5
    have h6 := be4_inj (Cr.sum _).isLt (Cr.sum _).isLt h5
    have h7 : Cr.sum (head r.length ++ R) = Cr.sum (head r.length ++ r) := BitVec.eq_of_toNat_eq h6
    have hR : R = r.take k ++ [x] ++ r.drop (k + 1) := by
      rw [hRk, List.set_eq_take_append_cons_drop, if_pos hk]
      simp
    have e8 : head r.length ++ R = (head r.length ++ r.take k) ++ [x] ++ r.drop (k + 1) := by
      have := congrArg (head r.length ++ ·) hR
      simpa using this
    have e9 : head r.length ++ r = (head r.length ++ r.take k) ++ [r[k]] ++ r.drop (k + 1) := by simp
    rw [e8, e9] at h7
    exact Cr.sum_byte (hxk r[k] (List.getElem?_eq_getElem hk)) h7
end Go.Proofs.Ytmbpkbdaakchiaa.Fr
