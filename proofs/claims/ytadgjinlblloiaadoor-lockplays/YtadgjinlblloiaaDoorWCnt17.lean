/- What the landed count does: one path more, or less, right under its Parent. -/
import Derived.Test.YtadgjinlblloiaaDoorWSm17
import Derived.Test.YtadgjinlblloiaaDoorTakeAt
import Derived.Test.YtadgjinlblloiaaDoorHeld2
import Derived.BigQuiet
import Derived.Deep.QuietTactic
namespace Go.Proofs.YtadgjinlblloiaaDoor
open Go.RowKit

/-- From s to s2 p has come to who (by 1), or gone (by -1). -/
structure Step17 (s s2 : Lk.St) (p : ByteArray) (who by_ : Int) : Prop where
  k : Lk.under p = true → (Lk.kids s2 (Lk.up p) : Int) = Lk.kids s (Lk.up p) + by_
  m : Lk.under p = true → (Lk.mine s2 (Lk.up p) who : Int) = Lk.mine s (Lk.up p) who + by_
  ok : ∀ q, (Lk.under p = true → q ≠ Lk.up p) → Lk.kids s2 q = Lk.kids s q
  om : ∀ q z, (Lk.under p = true → q ≠ Lk.up p ∨ z ≠ who) → Lk.mine s2 q z = Lk.mine s q z
theorem Step17.come (s : Lk.St) (p : ByteArray) (who : Int) : Step17 s (s ++ [⟨p, who⟩]) p who 1 := by
  refine ⟨fun h => ?_, fun h => ?_, fun q h => ?_, fun q z h => ?_⟩
  · rw [Lk.kids_snoc, if_pos (by unfold Lk.isKid; simp [h])]
    omega
  · rw [Lk.mine_snoc, if_pos (by unfold Lk.isMine Lk.isKid; simp [h])]
    omega
  · rw [Lk.kids_snoc, if_neg]
    · omega
    · unfold Lk.isKid
      intro e
      rw [Bool.and_eq_true, decide_eq_true_eq] at e
      exact h e.1 e.2.symm
  · rw [Lk.mine_snoc, if_neg]
    · omega
    · unfold Lk.isMine Lk.isKid
      intro e
      rw [Bool.and_eq_true, Bool.and_eq_true, decide_eq_true_eq, decide_eq_true_eq] at e
      exact (h e.1.1).elim (fun h2 => h2 e.1.2.symm) (fun h2 => h2 e.2.symm)
theorem Step17.go {m : Nat} {s : Lk.St} (hf : Lk.Fine m s) {p : ByteArray} {who : Int} (h : Lk.held s p = some who) : Step17 s (Lk.less s p) p who (-1) := by
  obtain ⟨x, hx, rfl, rfl⟩ := Lk.held_some h
  have hk := fun q => Lk.kids_less hf.uniq hx q
  have hm := fun q z => Lk.mine_less hf.uniq hx q z
  refine ⟨fun h => ?_, fun h => ?_, fun q h => ?_, fun q z h => ?_⟩
  · rw [hk, if_pos (by unfold Lk.isKid; simp [h])]
    omega
  · rw [hm, if_pos (by unfold Lk.isMine Lk.isKid; simp [h])]
    omega
  · rw [hk q, if_neg]
    · omega
    · unfold Lk.isKid
      intro e
      rw [Bool.and_eq_true, decide_eq_true_eq] at e
      exact h e.1 e.2.symm
  · rw [hm q z, if_neg]
    · omega
    · unfold Lk.isMine Lk.isKid
      intro e
      rw [Bool.and_eq_true, Bool.and_eq_true, decide_eq_true_eq, decide_eq_true_eq] at e
      exact (h e.1.1).elim (fun h2 => h2 e.1.2.symm) (fun h2 => h2 e.2.symm)

/-- The Locks while they count, the key in a block of its own. -/
structure Cs17 (w0 w : World) (q : Nat) (sh so : Lk.St) (F : Nat → Prop) (a b c d : Nat) (fh fo fu fs : Lit → Option Value) (V : Int → Value) (gm : Nat) (u : ByteArray) (who : Int) : Prop where
  lk : LkU w q sh so F a b c d fh fo fu fs V
  cb : Cb w gm [.string u, .int .i64 who] 58
  mv : Moved w0 w F F
/-- What the reads of the key's count lean on. -/
def SC17 (w : World) (q gm d : Nat) (u : ByteArray) (who : Int) (n : Nat) : Prop := w.cell? ⟨q, 3, none⟩ = some (.map (some d)) ∧ w.cell? ⟨gm, 0, none⟩ = some (.string u) ∧ w.cell? ⟨gm, 1, none⟩ = some (.int .i64 who) ∧ (Instr.lookup 51 (.map (some d)) (.agg #[.string u, .int .i64 who]) false).run Tryd.prog w = .ok (.int .i64 (n : Int)) w
section
variable {w0 w w' : World} {q a b c d gm : Nat} {sh so : Lk.St} {F : Nat → Prop} {fh fo fu fs fu' fs' : Lit → Option Value} {V : Int → Value} {u : ByteArray} {who : Int}
theorem Cs17.turn_u (h : Cs17 w0 w q sh so F a b c d fh fo fu fs V gm u who) (ht : w.mapTurned w' c) (hm : Mq w' 9 c fu') : Cs17 w0 w' q sh so F a b c d fh fo fu' fs V gm u who :=
  ⟨h.lk.turn_u ht hm, h.cb.keep (turned_keep ht h.cb.lt (h.lk.mu.ne h.cb).symm), h.mv.trans (Moved.turned ht h.lk.gm.2.2.1)⟩
theorem Cs17.turn_s (h : Cs17 w0 w q sh so F a b c d fh fo fu fs V gm u who) (ht : w.mapTurned w' d) (hm : Mq w' 58 d fs') : Cs17 w0 w' q sh so F a b c d fh fo fu fs' V gm u who :=
  ⟨h.lk.turn_s ht hm, h.cb.keep (turned_keep ht h.cb.lt (h.lk.ms.ne h.cb).symm), h.mv.trans (Moved.turned ht h.lk.gm.2.2.2)⟩
theorem Cs17.below (h : Cs17 w0 w q sh so F a b c d fh fo fu fs V gm u who) (hb : Below w.heap.size w w') : Cs17 w0 w' q sh so F a b c d fh fo fu fs V gm u who :=
  ⟨h.lk.below hb, h.cb.below hb, h.mv.trans (Moved.of_below F hb)⟩
theorem Cs17.s (h : Cs17 w0 w q sh so F a b c d fh fo fu fs V gm u who) (hu : u.size ≤ maxLen) (hw : I64 who) {n : Nat} (hn : (fs (skey u who)).getD (.int .i64 0) = .int .i64 (n : Int)) : SC17 w q gm d u who n := by
  refine ⟨h.lk.c3, h.cb.cell 0, h.cb.cell 1, ?_⟩
  have e := h.lk.ms.look keyedS Tryd.underlying51 (zeroN17 _) (key_s hu hw)
  rw [hn] at e
  exact e
end
/-- What count leaves. -/
def CntP17 (w : World) (q : Nat) (sh so s2 : Lk.St) (F : Nat → Prop) (a b c d : Nat) (fh fo : Lit → Option Value) (V : Int → Value) (e : Ending) (w' : World) : Prop :=
  e = .returned (.tuple #[]) ∧ ∃ fu fs, LkU w' q sh so F a b c d fh fo fu fs V ∧ IsU s2 fu ∧ IsS s2 fs ∧ Moved w w' F F
section
variable {w : World} {q a b c d : Nat} {sh so s s2 : Lk.St} {F : Nat → Prop} {fh fo fu fs : Lit → Option Value} {V : Int → Value}
set_option maxRecDepth 20000 in
set_option maxHeartbeats 4000000 in
theorem count_no17 (h : LkU w q sh so F a b c d fh fo fu fs V) (hu : IsU s fu) (hs : IsS s fs) (hS : Pa.Std w) (who : Int) (p : ByteArray) (hp : p.size ≤ maxLen) (by_ : Int) (hst : Step17 s s2 p who by_) (hn : Lk.under p = false) :
    Calls Tryd.prog 27 #[dptr q, .int .i64 who, .string p, .int .i64 by_] w (CntP17 w q sh so s2 F a b c d fh fo V) := by
  have HH : Hid (LkU w q sh so F a b c d fh fo fu fs V ∧ IsU s2 fu ∧ IsS s2 fs ∧ Pa.Std w ∧ p.size ≤ maxLen) := ⟨h, hu.all fun q => hst.ok q (fun e => by rw [hn] at e; cases e), hs.all fun q z => hst.om q z (fun e => by rw [hn] at e; cases e), hS, hp⟩
  clear h hu hs hS hp hst
  go_enter Tryd.func27, Tryd.ntmps27
  go_wp2_with fail
  refine (parent_any17 p w HH.out.2.2.2.1 HH.out.2.2.2.2).mono ?_
  rintro e w2 ⟨rfl, hb⟩
  rw [hn]
  have HB2 : Hid (Below w.heap.size w w2) := hb
  clear hb hn
  go_wp2
  refine bodyPost_ret (results_none rfl _ _ _) rfl ?_
  exact ⟨rfl, fu, fs, HH.out.1.below HB2.out, HH.out.2.1, HH.out.2.2.1, Moved.of_below F HB2.out⟩
set_option maxRecDepth 20000 in
set_option maxHeartbeats 8000000 in
theorem count_yes17 (h : LkU w q sh so F a b c d fh fo fu fs V) (hu : IsU s fu) (hs : IsS s fs) (hl : s.length ≤ 2000) (hl2 : s2.length ≤ 2000) (hS : Pa.Std w) (who : Int) (hw : I64 who) (p : ByteArray) (hp : p.size ≤ maxLen) (by_ : Int) (hst : Step17 s s2 p who by_) (hn : Lk.under p = true) :
    Calls Tryd.prog 27 #[dptr q, .int .i64 who, .string p, .int .i64 by_] w (CntP17 w q sh so s2 F a b c d fh fo V) := by
  have hup : Lk.upN p = Lk.up p := by unfold Lk.upN; rw [if_pos hn]
  obtain ⟨u, hue⟩ : ∃ u, u = Lk.up p := ⟨_, rfl⟩
  have husz : u.size ≤ maxLen := by rw [hue, ← hup]; exact Lk.upN_size hp
  obtain ⟨n1, hn1⟩ : ∃ n, n = Lk.kids s u := ⟨_, rfl⟩
  obtain ⟨n2, hn2⟩ : ∃ n, n = Lk.mine s u who := ⟨_, rfl⟩
  obtain ⟨k1, hk1⟩ : ∃ n, n = Lk.kids s2 u := ⟨_, rfl⟩
  obtain ⟨k2, hk2⟩ : ∃ n, n = Lk.mine s2 u who := ⟨_, rfl⟩
  have e1 := hst.k hn
  have e2 := hst.m hn
  rw [← hue, ← hn1, ← hk1] at e1
  rw [← hue, ← hn2, ← hk2] at e2
  have l1 : k1 ≤ 2000 := by rw [hk1]; exact Nat.le_trans (Lk.kids_le s2 u) hl2
  have l2 : k2 ≤ 2000 := by rw [hk2]; exact Nat.le_trans (Lk.mine_le s2 u who) (by rw [← hk1]; exact l1)
  have hw1 : IntKind.wrap .i64 ((n1 : Int) + by_) = (k1 : Int) := by rw [IntKind.wrap_i64]; omega
  have hw2 : IntKind.wrap .i64 ((n2 : Int) + by_) = (k2 : Int) := by rw [IntKind.wrap_i64]; omega
  obtain ⟨fu1, hu1⟩ := Up.some_is fu (pkey u) (some (.int .i64 (k1 : Int)))
  obtain ⟨fu2, hu2⟩ := Up.some_is fu1 (pkey u) none
  obtain ⟨fs1, hs1⟩ := Up.some_is fs (skey u who) (some (.int .i64 (k2 : Int)))
  obtain ⟨fs2, hs2⟩ := Up.some_is fs1 (skey u who) none
  have fin1 : ∀ g o, Up fu (pkey u) o g → cnt k1 = o → IsU s2 g := fun g o hg ho => hu.one (p := u) (by rw [← hk1, ho]; exact hg) fun q hq => hst.ok q fun _ => by rw [← hue]; exact hq
  have fin2 : ∀ g o, Up fs (skey u who) o g → cnt k2 = o → IsS s2 g := fun g o hg ho => hs.one (p := u) (z := who) husz hw (by rw [← hk2, ho]; exact hg) fun q z hq => hst.om q z fun _ => by rw [← hue]; exact hq
  have HG : Hid (Few fu 2000 ∧ Few fs 2000 ∧ 2000 < maxLen ∧ u.size ≤ maxLen ∧ I64 who ∧ fu (pkey u) = cnt n1 ∧ fs (skey u who) = cnt n2) := ⟨hu.few.mono hl, hs.few.mono hl, by decide, husz, hw, by rw [hu.at_, hn1], by rw [hs.at_ u who husz hw, hn2]⟩
  have HU : Hid (Up fu (pkey u) (some (.int .i64 (k1 : Int))) fu1 ∧ Up fu1 (pkey u) none fu2 ∧ Up fs (skey u who) (some (.int .i64 (k2 : Int))) fs1 ∧ Up fs1 (skey u who) none fs2) := ⟨hu1, hu2, hs1, hs2⟩
  have HF : Hid ((∀ g o, Up fu (pkey u) o g → cnt k1 = o → IsU s2 g) ∧ (∀ g o, Up fs (skey u who) o g → cnt k2 = o → IsS s2 g)) := ⟨fin1, fin2⟩
  have HH : Hid (LkU w q sh so F a b c d fh fo fu fs V ∧ Pa.Std w ∧ p.size ≤ maxLen) := ⟨h, hS, hp⟩
  have HKP : Hid (keyOf Tryd.prog 9 (.string u) = some (pkey u)) := key_p husz
  have HPA : Hid (∀ w, Pa.Std w → Calls Tryd.prog 28 #[.string p] w fun e w' => e = .returned (.tuple #[.string u, .bool true]) ∧ Below w.heap.size w w') := by
    refine fun w hS => (parent_any17 p w hS hp).mono ?_
    rintro e w' ⟨rfl, hb⟩
    rw [hup, ← hue, hn]
    exact ⟨rfl, hb⟩
  clear h hu hs hl hl2 hS hp hst hn hup hue husz hn1 hn2 hk1 hk2 e1 e2 l1 l2 hu1 hu2 hs1 hs2 fin1 fin2 hw
  go_enter Tryd.func27, Tryd.ntmps27
  go_wp2_with fail
  refine (HPA.out w HH.out.2.1).mono ?_
  rintro e w1 ⟨rfl, hb⟩
  have HB1 : Hid (Below w.heap.size w w1) := hb
  clear hb
  go_upto_region 3 with fail
  obtain ⟨gm, hgm⟩ : ∃ g, g = w1.heap.size := ⟨_, rfl⟩
  have H2 : Hid (Cs17 w (w1.alloc (.cells #[.string u, .int .i64 who] 58)) q sh so F a b c d fh fo fu fs V gm u who) := by
    have hb2 := HB1.out.alloc HB1.out.size (.cells #[.string u, .int .i64 who] 58)
    exact ⟨HH.out.1.below hb2, by rw [hgm]; exact Cb.made w1 _ _, Moved.of_below F hb2⟩
  rw [← hgm]
  clear hgm
  generalize w1.alloc (.cells #[.string u, .int .i64 who] 58) = w2 at *
  have t2 := H2.out.lk.c2
  go_wp2_with (first
    | (at_lookup; refine wpList_lookM rfl _ _ 50 rfl 9 3 keyedP Tryd.underlying50 (.int .i64 0) (zeroN17 _) rfl H2.out.lk.mu (.string u) (pkey u) rfl HKP.out (.int .i64 (n1 : Int)) (by rw [HG.out.2.2.2.2.2.1]; exact cnt_getD n1) ?_)
    | (at_mapUpdate; refine wpList_storeM rfl _ _ _ 50 rfl 9 3 keyedP Tryd.underlying50 rfl H2.out.lk.mu HG.out.1 HG.out.2.2.1 (.string u) (.int .i64 (k1 : Int)) (pkey u) rfl rfl HKP.out HU.out.1 ?_))
  intro w3 hm ht
  have H3 : Hid (Cs17 w w3 q sh so F a b c d fh fo fu1 fs V gm u who) := H2.out.turn_u ht hm
  clear hm ht t2 H2
  go_upto_region 4 with fail
  refine wp_region_T (fun w' => SC17 w' q gm d u who n2) 10 (by kernel_rfl) ?_
  have H4 : Hid (Cs17 w w3.drew q sh so F a b c d fh fo fu1 fs V gm u who) := H3.out.below (Below.refl _ _).drew
  clear H3
  generalize w3.drew = w4 at *
  have HV : Hid ((fs (skey u who)).getD (.int .i64 0) = .int .i64 (n2 : Int)) := (show (fs (skey u who)).getD (.int .i64 0) = .int .i64 (n2 : Int) by rw [HG.out.2.2.2.2.2.2]; exact cnt_getD n2)
  refine' take_T (i := 0) (d := 29) (v := _) rfl rfl (by kernel_rfl) (by kernel_rfl) (by kernel_rfl) (by kernel_rfl) (by kernel_rfl) (fun _ _ _ h => h) (Or.inl ⟨by rfl, ?h0⟩) (H4.out.s HG.out.2.2.2.1 HG.out.2.2.2.2.1 HV.out) ?_
  case h0 =>
    intro w hSw
    obtain ⟨t0, t1, t2, t3⟩ := hSw
    go_simp
    with_reducible rfl
  simp only [List.setIfInBounds_toArray, List.set_cons_zero, List.set_cons_succ]
  refine' take_T (i := 1) (d := 30) (v := _) rfl rfl (by kernel_rfl) (by kernel_rfl) (by kernel_rfl) (by kernel_rfl) (by kernel_rfl) (fun _ _ _ h => h) (Or.inl ⟨by rfl, ?h1⟩) (H4.out.s HG.out.2.2.2.1 HG.out.2.2.2.2.1 HV.out) ?_
  case h1 =>
    intro w hSw
    obtain ⟨t0, t1, t2, t3⟩ := hSw
    go_simp
    with_reducible rfl
  simp only [List.setIfInBounds_toArray, List.set_cons_zero, List.set_cons_succ]
  refine' take_T (i := 2) (d := 31) (v := _) rfl rfl (by kernel_rfl) (by kernel_rfl) (by kernel_rfl) (by kernel_rfl) (by kernel_rfl) (fun _ _ _ h => h) (Or.inl ⟨by rfl, ?h2⟩) (H4.out.s HG.out.2.2.2.1 HG.out.2.2.2.2.1 HV.out) ?_
  case h2 =>
    intro w hSw
    obtain ⟨t0, t1, t2, t3⟩ := hSw
    go_simp
    with_reducible rfl
  simp only [List.setIfInBounds_toArray, List.set_cons_zero, List.set_cons_succ]
  refine' take_T (i := 3) (d := 32) (v := _) rfl rfl (by kernel_rfl) (by kernel_rfl) (by kernel_rfl) (by kernel_rfl) (by kernel_rfl) (fun _ _ _ h => h) (Or.inl ⟨by rfl, ?h3⟩) (H4.out.s HG.out.2.2.2.1 HG.out.2.2.2.2.1 HV.out) ?_
  case h3 =>
    intro w hSw
    obtain ⟨t0, t1, t2, t3⟩ := hSw
    go_simp
    with_reducible rfl
  simp only [List.setIfInBounds_toArray, List.set_cons_zero, List.set_cons_succ]
  refine' take_T (i := 4) (d := 33) (v := _) rfl rfl (by kernel_rfl) (by kernel_rfl) (by kernel_rfl) (by kernel_rfl) (by kernel_rfl) (fun _ _ _ h => h) (Or.inl ⟨by rfl, ?h4⟩) (H4.out.s HG.out.2.2.2.1 HG.out.2.2.2.2.1 HV.out) ?_
  case h4 =>
    intro w hSw
    obtain ⟨t0, t1, t2, t3⟩ := hSw
    go_simp
    with_reducible rfl
  simp only [List.setIfInBounds_toArray, List.set_cons_zero, List.set_cons_succ]
  refine' take_T (i := 5) (d := 34) (v := _) rfl rfl (by kernel_rfl) (by kernel_rfl) (by kernel_rfl) (by kernel_rfl) (by kernel_rfl) (fun _ _ _ h => h) (Or.inl ⟨by rfl, ?h5⟩) (H4.out.s HG.out.2.2.2.1 HG.out.2.2.2.2.1 HV.out) ?_
  case h5 =>
    intro w hSw
    obtain ⟨t0, t1, t2, t3⟩ := hSw
    go_simp
    with_reducible rfl
  simp only [List.setIfInBounds_toArray, List.set_cons_zero, List.set_cons_succ]
  refine' take_T (i := 6) (d := 35) (v := _) rfl rfl (by kernel_rfl) (by kernel_rfl) (by kernel_rfl) (by kernel_rfl) (by kernel_rfl) (fun _ _ _ h => h) (Or.inl ⟨by rfl, ?h6⟩) (H4.out.s HG.out.2.2.2.1 HG.out.2.2.2.2.1 HV.out) ?_
  case h6 =>
    intro w hSw
    obtain ⟨t0, t1, t2, t3⟩ := hSw
    go_simp
    with_reducible rfl
  simp only [List.setIfInBounds_toArray, List.set_cons_zero, List.set_cons_succ]
  refine' take_T (i := 7) (d := 36) (v := _) rfl rfl (by kernel_rfl) (by kernel_rfl) (by kernel_rfl) (by kernel_rfl) (by kernel_rfl) (fun _ _ _ h => h) (Or.inl ⟨by rfl, ?h7⟩) (H4.out.s HG.out.2.2.2.1 HG.out.2.2.2.2.1 HV.out) ?_
  case h7 =>
    intro w hSw
    obtain ⟨t0, t1, t2, t3⟩ := hSw
    go_simp
    with_reducible rfl
  simp only [List.setIfInBounds_toArray, List.set_cons_zero, List.set_cons_succ]
  obtain ⟨st, w5, f1, hrun, hf1, hm, ht, hst⟩ := H4.out.lk.ms.entry lawS Tryd.underlying51 zeroN17 HG.out.2.1 HG.out.2.2.1 (key_s HG.out.2.2.2.1 HG.out.2.2.2.2.1)
  rw [HV.out] at hrun hf1
  have hrun2 : (Instr.mapEntry 51 (.map (some d)) (.agg #[.string u, .int .i64 who])).run Tryd.prog w4 = .ok (.tuple #[.int .i64 (n2 : Int), .int .i64 (st : Int)]) w5 := hrun
  have H5 : Hid (Cs17 w w5 q sh so F a b c d fh fo fu1 f1 V gm u who) := H4.out.turn_s ht hm
  have HV5 : Hid ((f1 (skey u who)).getD (.int .i64 0) = .int .i64 (n2 : Int)) := (show (f1 (skey u who)).getD (.int .i64 0) = .int .i64 (n2 : Int) by rw [hf1.same]; rfl)
  obtain ⟨w6, hrun6, hm6, ht6⟩ := hst w5 (.int .i64 (k2 : Int)) fs1 HU.out.2.2.1 rfl
  have HR6 : Hid ((Instr.entryStore 51 (.map (some d)) (.int .i64 (st : Int)) (.int .i64 (k2 : Int))).run Tryd.prog w5 = .ok () w6) := hrun6
  have H6 : Hid (Cs17 w w6 q sh so F a b c d fh fo fu1 fs1 V gm u who) := H5.out.turn_s ht6 hm6
  clear hm ht hf1 hst hrun hrun6 hm6 ht6
  refine wpAnyT_ready (rs := [8]) (by kernel_rfl) (by simp) ?_
  refine AllReadyT.cons (o := _) rfl (fun KQ hKQ => ?_) AllReadyT.nil
  go_simp
  clear hrun2
  refine hKQ.out _ _ (fun _ => H5.out.s HG.out.2.2.2.1 HG.out.2.2.2.2.1 HV5.out) ?_
  clear hKQ KQ
  refine' take_T (i := 9) (d := 38) (v := _) rfl rfl (by kernel_rfl) (by kernel_rfl) (by kernel_rfl) (by kernel_rfl) (by kernel_rfl) (fun _ _ _ h => h) (Or.inl ⟨by rfl, ?h9⟩) (H5.out.s HG.out.2.2.2.1 HG.out.2.2.2.2.1 HV5.out) ?_
  case h9 =>
    intro w hSw
    go_simp
    with_reducible rfl
  simp only [List.setIfInBounds_toArray, List.set_cons_zero, List.set_cons_succ]
  refine wpAnyT_ready (rs := [10]) (by kernel_rfl) (by simp) ?_
  refine AllReadyT.cons (o := _) rfl (fun KQ hKQ => ?_) AllReadyT.nil
  have hrun6 := HR6.out
  go_simp
  clear hrun6
  refine hKQ.out _ _ (fun h => absurd rfl h) ?_
  clear hKQ KQ
  refine wpAnyT_done (by kernel_rfl) ?_ _
  clear H4 H5 HV HV5 HR6
  by_cases hz : k1 = 0
  · have hzb : ((k1 : Int) == 0) = true := by rw [hz]; rfl
    have HZ : Hid (IsU s2 fu2) := HF.out.1 fu2 _ (HU.out.1.over HU.out.2.1) (by unfold cnt; rw [if_pos hz])
    clear hz
    have t2 := H6.out.lk.c2
    go_wp2_with (first
      | (at_lookup; refine wpList_lookM rfl _ _ 50 rfl 9 3 keyedP Tryd.underlying50 (.int .i64 0) (zeroN17 _) rfl H6.out.lk.mu (.string u) (pkey u) rfl HKP.out (.int .i64 (k1 : Int)) (by rw [HU.out.1.same]; rfl) ?_)
      | (at_delete; refine wpList_dropM rfl _ _ 50 9 rfl 3 keyedP Tryd.underlying50 rfl H6.out.lk.mu (.string u) (pkey u) rfl HKP.out HU.out.2.1 ?_))
    intro w7 hm ht
    have H7 : Hid (IsU s2 fu2 ∧ Cs17 w w7 q sh so F a b c d fh fo fu2 fs1 V gm u who) := ⟨HZ.out, H6.out.turn_u ht hm⟩
    clear hm ht t2 H6 HZ
    go_upto_region 7 with fail
    have t3 := H7.out.2.lk.c3
    have c0 := H7.out.2.cb.cell 0
    have c1 := H7.out.2.cb.cell 1
    have l7 : ∀ n, (Instr.lookup 51 (.map (some d)) (.agg #[.string u, .int .i64 who]) false).run Tryd.prog (w7.drewN n) = .ok (.int .i64 (k2 : Int)) (w7.drewN n) := fun n => ((H7.out.2.below (below_drewN (Below.refl _ w7) n)).s HG.out.2.2.2.1 HG.out.2.2.2.2.1 (by rw [HU.out.2.2.1.same]; rfl)).2.2.2
    by_cases hy : k2 = 0
    · have hyb : ((k2 : Int) == 0) = true := by rw [hy]; rfl
      have HY : Hid (IsS s2 fs2) := HF.out.2 fs2 _ (HU.out.2.2.1.over HU.out.2.2.2) (by unfold cnt; rw [if_pos hy])
      clear hy
      go_quiet (fail)
      clear l7
      go_upto_region 8 with fail
      have H8 : Hid (Cs17 w (w7.drewN nq) q sh so F a b c d fh fo fu2 fs1 V gm u who) := H7.out.2.below (below_drewN (Below.refl _ w7) _)
      refine wp_region_T (fun w' => SC17 w' q gm d u who k2) 5 (by kernel_rfl) ?_
      have H9 : Hid (Cs17 w (w7.drewN nq).drew q sh so F a b c d fh fo fu2 fs1 V gm u who) := H8.out.below (Below.refl _ _).drew
      have HE : Hid (IsU s2 fu2) := H7.out.1
      clear H8 H7 t3 c0 c1
      generalize (w7.drewN nq).drew = w9 at *
      have HV9 : Hid ((fs1 (skey u who)).getD (.int .i64 0) = .int .i64 (k2 : Int)) := (show (fs1 (skey u who)).getD (.int .i64 0) = .int .i64 (k2 : Int) by rw [HU.out.2.2.1.same]; rfl)
      refine' take_T (i := 0) (d := 58) (v := _) rfl rfl (by kernel_rfl) (by kernel_rfl) (by kernel_rfl) (by kernel_rfl) (by kernel_rfl) (fun _ _ _ h => h) (Or.inl ⟨by rfl, ?h0⟩) (H9.out.s HG.out.2.2.2.1 HG.out.2.2.2.2.1 HV9.out) ?_
      case h0 =>
        intro w hSw
        obtain ⟨t0, t1, t2, t3⟩ := hSw
        go_simp
        with_reducible rfl
      simp only [List.setIfInBounds_toArray, List.set_cons_zero, List.set_cons_succ]
      refine' take_T (i := 1) (d := 59) (v := _) rfl rfl (by kernel_rfl) (by kernel_rfl) (by kernel_rfl) (by kernel_rfl) (by kernel_rfl) (fun _ _ _ h => h) (Or.inl ⟨by rfl, ?h1⟩) (H9.out.s HG.out.2.2.2.1 HG.out.2.2.2.2.1 HV9.out) ?_
      case h1 =>
        intro w hSw
        obtain ⟨t0, t1, t2, t3⟩ := hSw
        go_simp
        with_reducible rfl
      simp only [List.setIfInBounds_toArray, List.set_cons_zero, List.set_cons_succ]
      refine' take_T (i := 2) (d := 60) (v := _) rfl rfl (by kernel_rfl) (by kernel_rfl) (by kernel_rfl) (by kernel_rfl) (by kernel_rfl) (fun _ _ _ h => h) (Or.inl ⟨by rfl, ?h2⟩) (H9.out.s HG.out.2.2.2.1 HG.out.2.2.2.2.1 HV9.out) ?_
      case h2 =>
        intro w hSw
        obtain ⟨t0, t1, t2, t3⟩ := hSw
        go_simp
        with_reducible rfl
      simp only [List.setIfInBounds_toArray, List.set_cons_zero, List.set_cons_succ]
      refine' take_T (i := 3) (d := 61) (v := _) rfl rfl (by kernel_rfl) (by kernel_rfl) (by kernel_rfl) (by kernel_rfl) (by kernel_rfl) (fun _ _ _ h => h) (Or.inl ⟨by rfl, ?h3⟩) (H9.out.s HG.out.2.2.2.1 HG.out.2.2.2.2.1 HV9.out) ?_
      case h3 =>
        intro w hSw
        obtain ⟨t0, t1, t2, t3⟩ := hSw
        go_simp
        with_reducible rfl
      simp only [List.setIfInBounds_toArray, List.set_cons_zero, List.set_cons_succ]
      refine' take_T (i := 4) (d := 62) (v := _) rfl rfl (by kernel_rfl) (by kernel_rfl) (by kernel_rfl) (by kernel_rfl) (by kernel_rfl) (fun _ _ _ h => h) (Or.inl ⟨by rfl, ?h4⟩) (H9.out.s HG.out.2.2.2.1 HG.out.2.2.2.2.1 HV9.out) ?_
      case h4 =>
        intro w hSw
        obtain ⟨t0, t1, t2, t3⟩ := hSw
        go_simp
        with_reducible rfl
      simp only [List.setIfInBounds_toArray, List.set_cons_zero, List.set_cons_succ]
      obtain ⟨wa, hrun, hm, ht⟩ := H9.out.lk.ms.drop keyedS Tryd.underlying51 (key_s HG.out.2.2.2.1 HG.out.2.2.2.2.1) 0 HU.out.2.2.2
      have hrun2 : (Builtin.delete_ #[51, 58] 0 #[.map (some d), .agg #[.string u, .int .i64 who]]).run Tryd.prog w9 = .ok (.tuple #[]) wa := hrun
      have HA : Hid (Cs17 w wa q sh so F a b c d fh fo fu2 fs2 V gm u who) := H9.out.turn_s ht hm
      clear hm ht hrun
      refine wpAnyT_ready (rs := [5]) (by kernel_rfl) (by simp) ?_
      refine AllReadyT.cons (o := _) rfl (fun KQ hKQ => ?_) AllReadyT.nil
      go_simp
      clear hrun2
      refine hKQ.out _ _ (fun h => absurd rfl h) ?_
      clear hKQ KQ
      refine wpAnyT_done (by kernel_rfl) ?_ _
      go_wp2
      go_end0
      exact ⟨rfl, fu2, fs2, HA.out.lk, HE.out, HY.out, HA.out.mv⟩
    · have hyb : ((k2 : Int) == 0) = false := by simp; omega
      have HY : Hid (IsS s2 fs1) := HF.out.2 fs1 _ HU.out.2.2.1 (cnt_some hy)
      clear hy
      go_quiet (fail)
      clear l7
      go_wp2
      go_end0
      exact ⟨rfl, fu2, fs1, (H7.out.2.lk).below (below_drewN (Below.refl _ w7) _), H7.out.1, HY.out, H7.out.2.mv.trans (Moved.of_below F (below_drewN (Below.refl _ w7) _))⟩
  · have hzb : ((k1 : Int) == 0) = false := by simp; omega
    have HZ : Hid (IsU s2 fu1) := HF.out.1 fu1 _ HU.out.1 (cnt_some hz)
    clear hz
    have t2 := H6.out.lk.c2
    go_wp2_with (first
      | (at_lookup; refine wpList_lookM rfl _ _ 50 rfl 9 3 keyedP Tryd.underlying50 (.int .i64 0) (zeroN17 _) rfl H6.out.lk.mu (.string u) (pkey u) rfl HKP.out (.int .i64 (k1 : Int)) (by rw [HU.out.1.same]; rfl) ?_)
      | (at_delete; refine wpList_dropM rfl _ _ 50 9 rfl 3 keyedP Tryd.underlying50 rfl H6.out.lk.mu (.string u) (pkey u) rfl HKP.out HU.out.2.1 ?_))
    have H7 : Hid (IsU s2 fu1 ∧ Cs17 w w6 q sh so F a b c d fh fo fu1 fs1 V gm u who) := ⟨HZ.out, H6.out⟩
    clear t2 H6 HZ
    generalize w6 = w7 at *
    have t3 := H7.out.2.lk.c3
    have c0 := H7.out.2.cb.cell 0
    have c1 := H7.out.2.cb.cell 1
    have l7 : ∀ n, (Instr.lookup 51 (.map (some d)) (.agg #[.string u, .int .i64 who]) false).run Tryd.prog (w7.drewN n) = .ok (.int .i64 (k2 : Int)) (w7.drewN n) := fun n => ((H7.out.2.below (below_drewN (Below.refl _ w7) n)).s HG.out.2.2.2.1 HG.out.2.2.2.2.1 (by rw [HU.out.2.2.1.same]; rfl)).2.2.2
    by_cases hy : k2 = 0
    · have hyb : ((k2 : Int) == 0) = true := by rw [hy]; rfl
      have HY : Hid (IsS s2 fs2) := HF.out.2 fs2 _ (HU.out.2.2.1.over HU.out.2.2.2) (by unfold cnt; rw [if_pos hy])
      clear hy
      go_quiet (fail)
      clear l7
      go_upto_region 8 with fail
      have H8 : Hid (Cs17 w (w7.drewN nq) q sh so F a b c d fh fo fu1 fs1 V gm u who) := H7.out.2.below (below_drewN (Below.refl _ w7) _)
      refine wp_region_T (fun w' => SC17 w' q gm d u who k2) 5 (by kernel_rfl) ?_
      have H9 : Hid (Cs17 w (w7.drewN nq).drew q sh so F a b c d fh fo fu1 fs1 V gm u who) := H8.out.below (Below.refl _ _).drew
      have HE : Hid (IsU s2 fu1) := H7.out.1
      clear H8 H7 t3 c0 c1
      generalize (w7.drewN nq).drew = w9 at *
      have HV9 : Hid ((fs1 (skey u who)).getD (.int .i64 0) = .int .i64 (k2 : Int)) := (show (fs1 (skey u who)).getD (.int .i64 0) = .int .i64 (k2 : Int) by rw [HU.out.2.2.1.same]; rfl)
      refine' take_T (i := 0) (d := 58) (v := _) rfl rfl (by kernel_rfl) (by kernel_rfl) (by kernel_rfl) (by kernel_rfl) (by kernel_rfl) (fun _ _ _ h => h) (Or.inl ⟨by rfl, ?h0⟩) (H9.out.s HG.out.2.2.2.1 HG.out.2.2.2.2.1 HV9.out) ?_
      case h0 =>
        intro w hSw
        obtain ⟨t0, t1, t2, t3⟩ := hSw
        go_simp
        with_reducible rfl
      simp only [List.setIfInBounds_toArray, List.set_cons_zero, List.set_cons_succ]
      refine' take_T (i := 1) (d := 59) (v := _) rfl rfl (by kernel_rfl) (by kernel_rfl) (by kernel_rfl) (by kernel_rfl) (by kernel_rfl) (fun _ _ _ h => h) (Or.inl ⟨by rfl, ?h1⟩) (H9.out.s HG.out.2.2.2.1 HG.out.2.2.2.2.1 HV9.out) ?_
      case h1 =>
        intro w hSw
        obtain ⟨t0, t1, t2, t3⟩ := hSw
        go_simp
        with_reducible rfl
      simp only [List.setIfInBounds_toArray, List.set_cons_zero, List.set_cons_succ]
      refine' take_T (i := 2) (d := 60) (v := _) rfl rfl (by kernel_rfl) (by kernel_rfl) (by kernel_rfl) (by kernel_rfl) (by kernel_rfl) (fun _ _ _ h => h) (Or.inl ⟨by rfl, ?h2⟩) (H9.out.s HG.out.2.2.2.1 HG.out.2.2.2.2.1 HV9.out) ?_
      case h2 =>
        intro w hSw
        obtain ⟨t0, t1, t2, t3⟩ := hSw
        go_simp
        with_reducible rfl
      simp only [List.setIfInBounds_toArray, List.set_cons_zero, List.set_cons_succ]
      refine' take_T (i := 3) (d := 61) (v := _) rfl rfl (by kernel_rfl) (by kernel_rfl) (by kernel_rfl) (by kernel_rfl) (by kernel_rfl) (fun _ _ _ h => h) (Or.inl ⟨by rfl, ?h3⟩) (H9.out.s HG.out.2.2.2.1 HG.out.2.2.2.2.1 HV9.out) ?_
      case h3 =>
        intro w hSw
        obtain ⟨t0, t1, t2, t3⟩ := hSw
        go_simp
        with_reducible rfl
      simp only [List.setIfInBounds_toArray, List.set_cons_zero, List.set_cons_succ]
      refine' take_T (i := 4) (d := 62) (v := _) rfl rfl (by kernel_rfl) (by kernel_rfl) (by kernel_rfl) (by kernel_rfl) (by kernel_rfl) (fun _ _ _ h => h) (Or.inl ⟨by rfl, ?h4⟩) (H9.out.s HG.out.2.2.2.1 HG.out.2.2.2.2.1 HV9.out) ?_
      case h4 =>
        intro w hSw
        obtain ⟨t0, t1, t2, t3⟩ := hSw
        go_simp
        with_reducible rfl
      simp only [List.setIfInBounds_toArray, List.set_cons_zero, List.set_cons_succ]
      obtain ⟨wa, hrun, hm, ht⟩ := H9.out.lk.ms.drop keyedS Tryd.underlying51 (key_s HG.out.2.2.2.1 HG.out.2.2.2.2.1) 0 HU.out.2.2.2
      have hrun2 : (Builtin.delete_ #[51, 58] 0 #[.map (some d), .agg #[.string u, .int .i64 who]]).run Tryd.prog w9 = .ok (.tuple #[]) wa := hrun
      have HA : Hid (Cs17 w wa q sh so F a b c d fh fo fu1 fs2 V gm u who) := H9.out.turn_s ht hm
      clear hm ht hrun
      refine wpAnyT_ready (rs := [5]) (by kernel_rfl) (by simp) ?_
      refine AllReadyT.cons (o := _) rfl (fun KQ hKQ => ?_) AllReadyT.nil
      go_simp
      clear hrun2
      refine hKQ.out _ _ (fun h => absurd rfl h) ?_
      clear hKQ KQ
      refine wpAnyT_done (by kernel_rfl) ?_ _
      go_wp2
      go_end0
      exact ⟨rfl, fu1, fs2, HA.out.lk, HE.out, HY.out, HA.out.mv⟩
    · have hyb : ((k2 : Int) == 0) = false := by simp; omega
      have HY : Hid (IsS s2 fs1) := HF.out.2 fs1 _ HU.out.2.2.1 (cnt_some hy)
      clear hy
      go_quiet (fail)
      clear l7
      go_wp2
      go_end0
      exact ⟨rfl, fu1, fs1, (H7.out.2.lk).below (below_drewN (Below.refl _ w7) _), H7.out.1, HY.out, H7.out.2.mv.trans (Moved.of_below F (below_drewN (Below.refl _ w7) _))⟩
theorem count_any17 (h : LkU w q sh so F a b c d fh fo fu fs V) (hu : IsU s fu) (hs : IsS s fs) (hl : s.length ≤ 2000) (hl2 : s2.length ≤ 2000) (hS : Pa.Std w) (who : Int) (hw : I64 who) (p : ByteArray) (hp : p.size ≤ maxLen) (by_ : Int) (hst : Step17 s s2 p who by_) :
    Calls Tryd.prog 27 #[dptr q, .int .i64 who, .string p, .int .i64 by_] w (CntP17 w q sh so s2 F a b c d fh fo V) := by
  cases hn : Lk.under p with
  | false => exact count_no17 h hu hs hS who p hp by_ hst hn
  | true => exact count_yes17 h hu hs hl hl2 hS who hw p hp by_ hst hn
end
end Go.Proofs.YtadgjinlblloiaaDoor
