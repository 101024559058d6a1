/- What the landed disk's Rename answers. -/
import Derived.Test.YtmbpkbdaakchiaaWAppend7
namespace Go.Proofs.Ytmbpkbdaakchiaa.Dq
theorem del_comm (s t : ByteArray) (fs : List Fl) : del s (del t fs) = del t (del s fs) := by
  unfold del
  rw [List.filter_filter, List.filter_filter]
  congr 1
  funext x
  exact Bool.and_comm _ _
theorem get_del_none (s : ByteArray) (fs : List Fl) : get s (del s fs) = none := by
  cases h : get s (del s fs) with
  | none => rfl
  | some f =>
    obtain ⟨h1, h2⟩ := get_some h
    exact absurd h2 (mem_del.1 h1).2
theorem get_del_other {s t : ByteArray} {fs : List Fl} (hne : s ≠ t) (hr : Rises fs) {f : Fl} (h : get s fs = some f) : get s (del t fs) = some f := by
  obtain ⟨h1, h2⟩ := get_some h
  exact get_mem (rises_del hr) (mem_del.2 ⟨h1, by rw [h2]; exact hne⟩) h2
theorem drop_fs {st : St} {t : ByteArray} (ho : st.off = false) (hm : may t = true) : (drop st t).2 = { st with fs := del t st.fs } := by
  rcases err_cases st t with ⟨e, h⟩ | ⟨e, _, h⟩ | ⟨e, _, _, h⟩ | ⟨e, _⟩
  · rw [ho] at h; cases h
  · rw [hm] at h; cases h
  · unfold drop
    rw [e, if_neg (by decide)]
    have e2 : del t st.fs = st.fs := by
      unfold del
      rw [List.filter_eq_self]
      intro x hx
      simpa using get_none h x hx
    rw [e2]
  · unfold drop
    rw [if_pos e]
end Go.Proofs.Ytmbpkbdaakchiaa.Dq
namespace Go.Proofs.Ytmbpkbdaakchiaa
open Go.RowKit

set_option maxRecDepth 20000 in
set_option maxHeartbeats 8000000 in
theorem rename_any7 (q : Nat) (st : Dq.St) (F : Nat → Prop) (s t : ByteArray) (w : World) (h : DkD w q st F) (hf : Fine st) :
    Calls Try.prog 45 #[dptr q, .string s, .string t] w fun e w' => ∃ F', e = .returned (.int .i64 (Dq.rename st s t).1) ∧ DkD w' q (Dq.rename st s t).2 F' ∧ Moved w w' F F' := by
  obtain ⟨m, D, P, V, h⟩ := h
  have HD : Hid (DkU w q st F m D P V (Dq.size st.fs) ∧ Fine st) := ⟨h, hf⟩
  have hmay := dmay_any7 t h
  by_cases hm0 : may7 st t = 0
  · rw [hm0] at hmay
    have HM : Hid (Calls Try.prog 47 #[dptr q, .string t] w fun e w' => e = .returned (.int .i64 0) ∧ Below w.heap.size w w') := hmay
    have hot : st.off = false ∧ Dq.may t = true := by
      unfold may7 at hm0
      cases ho : st.off with
      | true => rw [ho] at hm0; cases hm0
      | false =>
        cases hm : Dq.may t with
        | false => rw [ho, hm] at hm0; cases hm0
        | true => exact ⟨rfl, rfl⟩
    have HOT : Hid (st.off = false ∧ Dq.may t = true) := hot
    by_cases e0 : Dq.err st s = 0
    · obtain ⟨_, hms, f, hg⟩ := Dq.err_zero e0
      have HG : Hid (Dq.err st s = 0 ∧ Dq.get s st.fs = some f ∧ Dq.may s = true) := ⟨e0, hg, hms⟩
      obtain ⟨p, hp⟩ : ∃ p, p = P s := ⟨_, rfl⟩
      have HP : Hid (p = P s) := hp
      cases hst : (s.toList == t.toList) with
      | true =>
        have HX : Hid (Dq.rename st s t = (0, st)) := by
          have h : Dq.rename st s t = (0, st) := by unfold Dq.rename; rw [hot.1, hot.2, hms, hg]; simp [bytes_eq hst]
          exact h
        rw [HX.out]
        clear h hf e0 hg hp hmay hm0 hot hms
        go_enter Try.func45, Try.ntmps45
        go_wp2_with fail
        refine HM.out.mono ?_
        rintro e w1 ⟨rfl, hb⟩
        have HB : Hid (Below w.heap.size w w1 ∧ DkU w1 q st F m D P V (Dq.size st.fs)) := ⟨hb, HD.out.1.below hb⟩
        have HC : Hid (Calls Try.prog 35 #[dptr q, .string s] w1 fun e w' => e = .returned (.tuple #[fptr p, .int .i64 0]) ∧ Below w1.heap.size w1 w') := by rw [HP.out]; exact dfind_yes HB.out.2 HG.out.1
        clear hb
        go_wp2_with fail
        refine HC.out.mono ?_
        rintro e w2 ⟨rfl, hb⟩
        have HB2 : Hid (Below w1.heap.size w1 w2) := hb
        clear hb
        go_wp2
        go_ret
        exact ⟨F, rfl, (HB.out.2.below HB2.out).toD rfl, (Moved.of_below F HB.out.1).trans (Moved.of_below F HB2.out)⟩
      | false =>
        have hne : s ≠ t := fun e => by rw [e] at hst; simp at hst
        have HNE : Hid (s ≠ t) := hne
        have HX : Hid (Dq.rename st s t = (0, { st with fs := Dq.lay { f with name := t } (Dq.del t (Dq.del s st.fs)) })) := by
          have h : Dq.rename st s t = (0, { st with fs := Dq.lay { f with name := t } (Dq.del t (Dq.del s st.fs)) }) := by unfold Dq.rename; rw [hot.1, hot.2, hms, hg]; simp [hne]
          exact h
        rw [HX.out]
        have HK : Hid (keyOf Try.prog 9 (.string s) = some (fkey s)) := key_of (may_len hms)
        clear h hf e0 hg hp hmay hm0 hot hms hne
        go_enter Try.func45, Try.ntmps45
        go_wp2_with fail
        refine HM.out.mono ?_
        rintro e w1 ⟨rfl, hb⟩
        have HB : Hid (Below w.heap.size w w1 ∧ DkU w1 q st F m D P V (Dq.size st.fs)) := ⟨hb, HD.out.1.below hb⟩
        have HC : Hid (Calls Try.prog 35 #[dptr q, .string s] w1 fun e w' => e = .returned (.tuple #[fptr p, .int .i64 0]) ∧ Below w1.heap.size w1 w') := by rw [HP.out]; exact dfind_yes HB.out.2 HG.out.1
        clear hb
        go_wp2_with fail
        refine HC.out.mono ?_
        rintro e w2 ⟨rfl, hb⟩
        have HB2 : Hid (DkU w2 q st F m D P V (Dq.size st.fs) ∧ Moved w w2 F F) := ⟨HB.out.2.below hb, (Moved.of_below F HB.out.1).trans (Moved.of_below F hb)⟩
        clear hb
        go_wp2_with fail
        refine (dropU_any7 t HB2.out.1 HD.out.2).mono ?_
        rintro e w3 ⟨F3, D3, V3, rfl, hd3, hm3⟩
        rw [Dq.drop_fs HOT.out.1 HOT.out.2] at hd3
        have HU : Hid (DkU w3 q { st with fs := Dq.del t st.fs } F3 m D3 P V3 (Dq.size (Dq.del t st.fs)) ∧ Moved w w3 F F3) := ⟨hd3, HB2.out.2.trans hm3⟩
        have c0 : w3.cell? ⟨q, 0, none⟩ = some (.map (some m)) := hd3.blk.cell 0
        clear hd3 hm3
        go_wp2_with (at_delete; refine wpList_delete_own _ rfl _ _ 44 9 rfl 61 keyed7 Try.underlying44 fElem m _ D3 rfl HU.out.1.own (.string s) (fkey s) rfl HK.out ?_)
        intro w4 hown hturn
        have HU4 : Hid (DkU w4 q { st with fs := Dq.del s (Dq.del t st.fs) } F3 m (D3.del (fkey s)) P V3 (Dq.size (Dq.del t st.fs)) ∧ Moved w w4 F F3 ∧ Fd w4 p (V3 s) { f with name := t } ∧ (∀ g ∈ Dq.del s (Dq.del t st.fs), P g.name ≠ p ∧ ∀ k, (V3 g.name).ownBlock = some k → (V3 s).ownBlock ≠ some k) ∧ (F3 p ∧ ∀ k, (V3 s).ownBlock = some k → F3 k)) := by
          obtain ⟨hf1, hf2⟩ := Dq.get_some (Dq.get_del_other HNE.out HD.out.2.1.rises HG.out.2.1)
          obtain ⟨k1, k2, k3, k4⟩ := HU.out.1.gone (Dq.rises_del HD.out.2.1.rises) hf1 hf2 hown hturn
          have k5 := HU.out.1.gf f hf1
          rw [hf2] at k5
          rw [← HP.out] at k3 k4 k5
          exact ⟨k1, HU.out.2.trans k2, ⟨k3.blk, k3.row⟩, k4, k5⟩
        have HLT : Hid (t.size ≤ 1000 ∧ (Dq.del s (Dq.del t st.fs)).length ≤ 100000 ∧ Dq.get t (Dq.del s (Dq.del t st.fs)) = none) := by
          have h1 := HOT.out.2
          unfold Dq.may at h1
          simp only [Bool.and_eq_true, decide_eq_true_eq] at h1
          have h2 := Dq.len_del s (Dq.del t st.fs)
          have h3 := Dq.len_del t st.fs
          have h4 := HD.out.2.2.1
          refine ⟨by omega, by omega, ?_⟩
          rw [Dq.del_comm]
          exact Dq.get_del_none _ _
        clear hown hturn c0
        go_wp2_with fail
        refine (keep_any7 (f := { f with name := t }) HU4.out.1 rfl HLT.out.1 HLT.out.2.2 HLT.out.2.1 HU4.out.2.2.1 HU4.out.2.2.2.1 HU4.out.2.2.2.2).mono ?_
        rintro e w5 ⟨rfl, D5, P5, V5, hd5, hm5, _, _⟩
        have HFIN : Hid (DkD w5 q { st with fs := Dq.lay { f with name := t } (Dq.del t (Dq.del s st.fs)) } F3 ∧ Moved w w5 F F3) := by
          refine ⟨?_, HU4.out.2.1.trans hm5⟩
          rw [Dq.del_comm t s]
          refine hd5.toD ?_
          obtain ⟨hf1, hf2⟩ := Dq.get_some (Dq.get_del_other HNE.out HD.out.2.1.rises HG.out.2.1)
          have h1 := (Dq.size_del_eq (Dq.rises_del HD.out.2.1.rises) hf1 hf2).1
          simp only [Dq.size_lay]
          omega
        clear hd5 hm5
        go_wp2
        go_ret
        exact ⟨F3, rfl, HFIN.out⟩
    · have HX : Hid (Dq.rename st s t = (Dq.err st s, st)) := by
        have h : Dq.rename st s t = (Dq.err st s, st) := by
          unfold Dq.rename
          rcases Dq.err_cases st s with ⟨e, h1⟩ | ⟨e, h1, h2⟩ | ⟨e, h1, h2, h3⟩ | ⟨e, _⟩
          · rw [hot.1] at h1; cases h1
          · rw [e, h1, h2]; simp
          · rw [e, h1, h2, hot.2, h3]; simp
          · exact absurd e e0
        exact h
      rw [HX.out]
      obtain ⟨z, hz⟩ : ∃ z, z = Dq.err st s := ⟨_, rfl⟩
      have HE : Hid (Dq.err st s = z) := hz.symm
      rw [← hz] at e0 ⊢
      clear h hf hz hmay hm0 hot
      go_enter Try.func45, Try.ntmps45
      go_wp2_with fail
      refine HM.out.mono ?_
      rintro e w1 ⟨rfl, hb⟩
      have HB : Hid (Below w.heap.size w w1 ∧ DkU w1 q st F m D P V (Dq.size st.fs)) := ⟨hb, HD.out.1.below hb⟩
      have HC : Hid (Calls Try.prog 35 #[dptr q, .string s] w1 fun e w' => e = .returned (.tuple #[.pointer none, .int .i64 z]) ∧ Below w1.heap.size w1 w') := dfind_no HB.out.2 HE.out e0
      clear hb
      go_wp2_with fail
      refine HC.out.mono ?_
      rintro e w2 ⟨rfl, hb⟩
      have HB2 : Hid (Below w1.heap.size w1 w2) := hb
      clear hb
      go_wp2
      go_ret
      exact ⟨F, rfl, (HB.out.2.below HB2.out).toD rfl, (Moved.of_below F HB.out.1).trans (Moved.of_below F HB2.out)⟩
  · have HX : Hid (Dq.rename st s t = (may7 st t, st)) := by
      have h : Dq.rename st s t = (may7 st t, st) := by
        unfold Dq.rename may7
        cases ho : st.off with
        | true => simp
        | false =>
          cases hm : Dq.may t with
          | false => simp
          | true => exact absurd (by unfold may7; rw [ho, hm]; rfl) hm0
      exact h
    rw [HX.out]
    obtain ⟨z, hz⟩ : ∃ z, z = may7 st t := ⟨_, rfl⟩
    rw [← hz] at hm0 hmay ⊢
    have HM : Hid (Calls Try.prog 47 #[dptr q, .string t] w fun e w' => e = .returned (.int .i64 z) ∧ Below w.heap.size w w') := hmay
    clear h hf hz hmay
    go_enter Try.func45, Try.ntmps45
    go_wp2_with fail
    refine HM.out.mono ?_
    rintro e w1 ⟨rfl, hb⟩
    have HB : Hid (Below w.heap.size w w1 ∧ DkU w1 q st F m D P V (Dq.size st.fs)) := ⟨hb, HD.out.1.below hb⟩
    clear hb
    go_wp2
    go_ret
    exact ⟨F, rfl, HB.out.2.toD rfl, Moved.of_below F HB.out.1⟩
end Go.Proofs.Ytmbpkbdaakchiaa
