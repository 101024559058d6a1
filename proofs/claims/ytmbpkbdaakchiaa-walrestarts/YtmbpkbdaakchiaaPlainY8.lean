/- The steps of Restart over a disk: plain reckoning, no program. -/
import Derived.Test.YtmbpkbdaakchiaaPlainX8
import Derived.Test.YtmbpkbdaakchiaaSpecs7
namespace Go.Proofs.Ytmbpkbdaakchiaa.Wq

theorem off_cut (st : Dq.St) (s : ByteArray) (n : Int) : (Dq.cut st s n).2.off = st.off := by
  unfold Dq.cut
  split
  · split <;> rfl
  · rfl
theorem off_drop (st : Dq.St) (s : ByteArray) : (Dq.drop st s).2.off = st.off := by unfold Dq.drop; split <;> rfl
theorem off_append (st : Dq.St) (s : ByteArray) (b : List UInt8) : (Dq.append st s b).2.off = st.off := by
  unfold Dq.append
  split
  · rfl
  split
  · rfl
  split <;> rfl
theorem off_sync (st : Dq.St) (s : ByteArray) : (Dq.sync st s).2.off = st.off := by unfold Dq.sync; split <;> rfl

theorem get_any {s : ByteArray} {fs : List Dq.Fl} {f : Dq.Fl} (hf : f ∈ fs) (hn : f.name = s) : ∃ f, Dq.get s fs = some f := by
  cases h : Dq.get s fs with
  | some f => exact ⟨f, rfl⟩
  | none => exact absurd hn (Dq.get_none h f hf)
theorem get_upd {s : ByteArray} {fs : List Dq.Fl} {g : Dq.Fl → Dq.Fl} (hg : ∀ f, (g f).name = f.name) {f : Dq.Fl} (h : Dq.get s fs = some f) : ∃ f, Dq.get s (Dq.upd s g fs) = some f := by
  obtain ⟨h1, h2⟩ := Dq.get_some h
  refine get_any (f := g f) ?_ (by rw [hg, h2])
  unfold Dq.upd
  refine List.mem_map.2 ⟨f, h1, ?_⟩
  simp [h2]

/-- A call whose name may be and whose disk is on says 0 or 4. -/
theorem err_on {st : Dq.St} {s : ByteArray} (h : st.off = false) (hm : Dq.may s = true) : Dq.err st s = 0 ∨ Dq.err st s = 4 := by
  rcases Dq.err_cases st s with ⟨_, h1⟩ | ⟨_, _, h1⟩ | ⟨e, _⟩ | ⟨e, _⟩
  · rw [h] at h1; cases h1
  · rw [hm] at h1; cases h1
  · exact Or.inr e
  · exact Or.inl e
theorem err_get {st : Dq.St} {s : ByteArray} {f : Dq.Fl} (h : st.off = false) (hm : Dq.may s = true) (hg : Dq.get s st.fs = some f) : Dq.err st s = 0 := by
  unfold Dq.err
  rw [h, hm, hg]
  rfl
theorem cut_says {st : Dq.St} (h : st.off = false) : (Dq.cut st logN 0).1 = 0 ∨ (Dq.cut st logN 0).1 = 4 := by
  unfold Dq.cut
  split
  · rw [if_neg (by omega)]; exact Or.inl rfl
  · exact err_on h may_log
theorem drop_says {st : Dq.St} (h : st.off = false) : (Dq.drop st newN).1 = 0 ∨ (Dq.drop st newN).1 = 4 := by
  unfold Dq.drop
  split
  · exact Or.inl rfl
  · exact err_on h may_new
theorem append_get {st : Dq.St} {b : List UInt8} (h : st.off = false) (hz : (Dq.append st newN b).1 = 0) : ∃ f, Dq.get newN (Dq.append st newN b).2.fs = some f := by
  unfold Dq.append at hz ⊢
  rcases Dq.err_cases st newN with ⟨e, h1⟩ | ⟨e, _, h1⟩ | ⟨e, _⟩ | ⟨e, _, _, f, hf⟩
  · rw [h] at h1; cases h1
  · rw [may_new] at h1; cases h1
  · rw [e] at hz ⊢
    rw [if_neg (by decide)] at hz ⊢
    split
    · rename_i h2; rw [if_pos h2] at hz; exact absurd hz (show ¬ ((9 : Int) = 0) by decide)
    · rw [if_pos rfl]
      exact get_any (Dq.mem_lay.2 (Or.inl rfl)) rfl
  · rw [e] at hz ⊢
    rw [if_neg (by decide)] at hz ⊢
    split
    · rename_i h2; rw [if_pos h2] at hz; exact absurd hz (show ¬ ((9 : Int) = 0) by decide)
    · rw [if_neg (by decide)]
      exact get_upd (fun _ => rfl) hf
theorem sync_says {st : Dq.St} {f : Dq.Fl} (h : st.off = false) (hg : Dq.get newN st.fs = some f) : (Dq.sync st newN).1 = 0 ∧ ∃ f, Dq.get newN (Dq.sync st newN).2.fs = some f := by
  unfold Dq.sync
  rw [if_pos (err_get h may_new hg)]
  exact ⟨rfl, get_upd (fun _ => rfl) hg⟩
theorem rename_says {st : Dq.St} {f : Dq.Fl} (h : st.off = false) (hg : Dq.get newN st.fs = some f) : (Dq.rename st newN baseN).1 = 0 := by
  unfold Dq.rename
  rw [h, may_new, may_base, hg]
  simp [ne_new_base]

theorem wiped_off {st : Dq.St} (h : st.off = false) : (wiped st).off = false := by unfold wiped; rw [off_drop, off_cut, h]
theorem based_off {st : Dq.St} (h : st.off = false) (n : Int) : (based st n).2.off = false := by unfold based; rw [off_append, wiped_off h]
theorem based_says {st : Dq.St} {n : Int} (h : st.off = false) (hz : (based st n).1 = 0) : (Dq.sync (based st n).2 newN).1 = 0 ∧ (Dq.rename (Dq.sync (based st n).2 newN).2 newN baseN).1 = 0 := by
  obtain ⟨f, hf⟩ := append_get (wiped_off h) hz
  obtain ⟨h1, f2, h2⟩ := sync_says (based_off h n) hf
  exact ⟨h1, rename_says (by rw [off_sync, based_off h n]) h2⟩
theorem restart_ok {g : Lg} {st : Dq.St} {n : Int} (ho : off g st = false) (h1 : 1 ≤ n) (h2 : n ≤ 1099511627776) (hz : (based st n).1 = 0) : restart g st n = (0, { g with first := n, recs := [] }, (Dq.rename (Dq.sync (based st n).2 newN).2 newN baseN).2) := by
  unfold restart
  rw [ho, if_neg (by simp), if_neg (by omega), if_pos hz]
theorem restart_full {g : Lg} {st : Dq.St} {n : Int} (ho : off g st = false) (h1 : 1 ≤ n) (h2 : n ≤ 1099511627776) (hz : ¬ (based st n).1 = 0) : restart g st n = ((based st n).1, { g with done := true }, (based st n).2) := by
  unfold restart
  rw [ho, if_neg (by simp), if_neg (by omega), if_neg hz]
end Go.Proofs.Ytmbpkbdaakchiaa.Wq
namespace Go.Proofs.Ytmbpkbdaakchiaa
theorem fine_wiped {st : Dq.St} (h : Fine st) (hl : st.fs.length ≤ 900) : Fine (Dq.cut st Wq.logN 0).2 ∧ Fine (Wq.wiped st) ∧ (Wq.wiped st).fs.length ≤ 900 := by
  have h1 := fine_cut h Wq.logN 0
  have hl1 : (Dq.cut st Wq.logN 0).2.fs.length ≤ 900 := by
    unfold Dq.cut
    split
    · split
      · exact hl
      · simpa [Dq.len_upd] using hl
    · exact hl
  refine ⟨h1, fine_drop h1 _, ?_⟩
  unfold Wq.wiped Dq.drop
  split
  · refine Nat.le_trans ?_ hl1
    unfold Dq.del
    exact List.length_filter_le _ _
  · exact hl1
end Go.Proofs.Ytmbpkbdaakchiaa
