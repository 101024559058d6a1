/- What the landed count does: one path more, or less, right under its Parent. What the landed lock's inner take does: a path that is not blocked becomes one's. What the landed Free does. What the landed Take does: all or none. -/
import Derived.Test.YtboejbjobjhajaaGreatDoorLk7
import Derived.Test.YtboejbjobjhajaaGreatDoorBas
import Derived.BigQuiet
import Derived.Deep.QuietTactic
import Derived.Maps.AppendAt
namespace Go.Proofs.YtboejbjobjhajaaGreatDoor
open Go.RowKit

structure Step17 (s s2 : Lk.St) (p : ByteArray) (who by_ : Int) : Prop where
  k : Lk.under p = true → (Lk.kids s2 (Lk.up p) : Int) = Lk.kids s (Lk.up p) + by_
  m : Lk.under p = true → (Lk.mine s2 (Lk.up p) who : Int) = Lk.mine s (Lk.up p) who + by_
  ok : ∀ q, (Lk.under p = true → q ≠ Lk.up p) → Lk.kids s2 q = Lk.kids s q
  om : ∀ q z, (Lk.under p = true → q ≠ Lk.up p ∨ z ≠ who) → Lk.mine s2 q z = Lk.mine s q z
theorem Step17.come (s : Lk.St) (p : ByteArray) (who : Int) : Step17 s (s ++ [⟨p, who⟩]) p who 1 := by
  refine ⟨fun h => ?_, fun h => ?_, fun q h => ?_, fun q z h => ?_⟩
  · rw [Lk.kids_snoc, if_pos (by unfold Lk.isKid; simp [h])]
    omega
  · rw [Lk.mine_snoc, if_pos (by unfold Lk.isMine Lk.isKid; simp [h])]
    omega
  · rw [Lk.kids_snoc, if_neg]
    · omega
    · unfold Lk.isKid
      intro e
      rw [Bool.and_eq_true, decide_eq_true_eq] at e
      exact h e.1 e.2.symm
  · rw [Lk.mine_snoc, if_neg]
    · omega
    · unfold Lk.isMine Lk.isKid
      intro e
      rw [Bool.and_eq_true, Bool.and_eq_true, decide_eq_true_eq, decide_eq_true_eq] at e
      exact (h e.1.1).elim (fun h2 => h2 e.1.2.symm) (fun h2 => h2 e.2.symm)
theorem Step17.go {m : Nat} {s : Lk.St} (hf : Lk.Fine m s) {p : ByteArray} {who : Int} (h : Lk.held s p = some who) : Step17 s (Lk.less s p) p who (-1) := by
  obtain ⟨x, hx, rfl, rfl⟩ := Lk.held_some h
  have hk := fun q => Lk.kids_less hf.uniq hx q
  have hm := fun q z => Lk.mine_less hf.uniq hx q z
  refine ⟨fun h => ?_, fun h => ?_, fun q h => ?_, fun q z h => ?_⟩
  · rw [hk, if_pos (by unfold Lk.isKid; simp [h])]
    omega
  · rw [hm, if_pos (by unfold Lk.isMine Lk.isKid; simp [h])]
    omega
  · rw [hk q, if_neg]
    · omega
    · unfold Lk.isKid
      intro e
      rw [Bool.and_eq_true, decide_eq_true_eq] at e
      exact h e.1 e.2.symm
  · rw [hm q z, if_neg]
    · omega
    · unfold Lk.isMine Lk.isKid
      intro e
      rw [Bool.and_eq_true, Bool.and_eq_true, decide_eq_true_eq, decide_eq_true_eq] at e
      exact (h e.1.1).elim (fun h2 => h2 e.1.2.symm) (fun h2 => h2 e.2.symm)

structure Cs17 (w0 w : World) (q : Nat) (sh so : Lk.St) (F : Nat → Prop) (a b c d : Nat) (fh fo fu fs : Lit → Option Value) (V : Int → Value) (gm : Nat) (u : ByteArray) (who : Int) : Prop where
  lk : LkU w q sh so F a b c d fh fo fu fs V
  cb : Cb w gm [.string u, .int .i64 who] 199
  mv : Moved w0 w F F
def SC17 (w : World) (q gm d : Nat) (u : ByteArray) (who : Int) (n : Nat) : Prop := w.cell? ⟨q, 3, none⟩ = some (.map (some d)) ∧ w.cell? ⟨gm, 0, none⟩ = some (.string u) ∧ w.cell? ⟨gm, 1, none⟩ = some (.int .i64 who) ∧ (Instr.lookup 159 (.map (some d)) (.agg #[.string u, .int .i64 who]) false).run Tryz.prog w = .ok (.int .i64 (n : Int)) w
section
variable {w0 w w' : World} {q a b c d gm : Nat} {sh so : Lk.St} {F : Nat → Prop} {fh fo fu fs fu' fs' : Lit → Option Value} {V : Int → Value} {u : ByteArray} {who : Int}
theorem Cs17.turn_u (h : Cs17 w0 w q sh so F a b c d fh fo fu fs V gm u who) (ht : w.mapTurned w' c) (hm : Mq w' 9 c fu') : Cs17 w0 w' q sh so F a b c d fh fo fu' fs V gm u who :=
  ⟨h.lk.turn_u ht hm, h.cb.keep (turned_keep ht h.cb.lt (h.lk.mu.ne h.cb).symm), h.mv.trans (Moved.turned ht h.lk.gm.2.2.1)⟩
theorem Cs17.turn_s (h : Cs17 w0 w q sh so F a b c d fh fo fu fs V gm u who) (ht : w.mapTurned w' d) (hm : Mq w' 199 d fs') : Cs17 w0 w' q sh so F a b c d fh fo fu fs' V gm u who :=
  ⟨h.lk.turn_s ht hm, h.cb.keep (turned_keep ht h.cb.lt (h.lk.ms.ne h.cb).symm), h.mv.trans (Moved.turned ht h.lk.gm.2.2.2)⟩
theorem Cs17.below (h : Cs17 w0 w q sh so F a b c d fh fo fu fs V gm u who) (hb : Below w.heap.size w w') : Cs17 w0 w' q sh so F a b c d fh fo fu fs V gm u who :=
  ⟨h.lk.below hb, h.cb.below hb, h.mv.trans (Moved.of_below F hb)⟩
theorem Cs17.s (h : Cs17 w0 w q sh so F a b c d fh fo fu fs V gm u who) (hu : u.size ≤ maxLen) (hw : I64 who) {n : Nat} (hn : (fs (skey u who)).getD (.int .i64 0) = .int .i64 (n : Int)) : SC17 w q gm d u who n := by
  refine ⟨h.lk.c3, h.cb.cell 0, h.cb.cell 1, ?_⟩
  have e := h.lk.ms.look keyedS Tryz.underlying159 (zeroN17 _) (key_s hu hw)
  rw [hn] at e
  exact e
end
def CntP17 (w : World) (q : Nat) (sh so s2 : Lk.St) (F : Nat → Prop) (a b c d : Nat) (fh fo : Lit → Option Value) (V : Int → Value) (e : Ending) (w' : World) : Prop :=
  e = .returned (.tuple #[]) ∧ ∃ fu fs, LkU w' q sh so F a b c d fh fo fu fs V ∧ IsU s2 fu ∧ IsS s2 fs ∧ Moved w w' F F
section
variable {w : World} {q a b c d : Nat} {sh so s s2 : Lk.St} {F : Nat → Prop} {fh fo fu fs : Lit → Option Value} {V : Int → Value}
set_option maxRecDepth 20000 in
set_option maxHeartbeats 4000000 in
theorem count_no17 (h : LkU w q sh so F a b c d fh fo fu fs V) (hu : IsU s fu) (hs : IsS s fs) (hS : Pa.Std w) (who : Int) (p : ByteArray) (hp : p.size ≤ maxLen) (by_ : Int) (hst : Step17 s s2 p who by_) (hn : Lk.under p = false) :
    Calls Tryz.prog 104 #[dptr q, .int .i64 who, .string p, .int .i64 by_] w (CntP17 w q sh so s2 F a b c d fh fo V) := by
  have HH : Hid (LkU w q sh so F a b c d fh fo fu fs V ∧ IsU s2 fu ∧ IsS s2 fs ∧ Pa.Std w ∧ p.size ≤ maxLen) := ⟨h, hu.all fun q => hst.ok q (fun e => by rw [hn] at e; cases e), hs.all fun q z => hst.om q z (fun e => by rw [hn] at e; cases e), hS, hp⟩
  clear h hu hs hS hp hst
  go_enter Tryz.func104, Tryz.ntmps104
  go_wp2_with fail
  refine (parent_any17 p w HH.out.2.2.2.1 HH.out.2.2.2.2).mono ?_
  rintro e w2 ⟨rfl, hb⟩
  rw [hn]
  have HB2 : Hid (Below w.heap.size w w2) := hb
  clear hb hn
  go_wp2
  refine bodyPost_ret (results_none rfl _ _ _) rfl ?_
  exact ⟨rfl, fu, fs, HH.out.1.below HB2.out, HH.out.2.1, HH.out.2.2.1, Moved.of_below F HB2.out⟩
set_option maxRecDepth 20000 in
set_option maxHeartbeats 8000000 in
theorem count_yes17 (h : LkU w q sh so F a b c d fh fo fu fs V) (hu : IsU s fu) (hs : IsS s fs) (hl : s.length ≤ 2000000) (hl2 : s2.length ≤ 2000000) (hS : Pa.Std w) (who : Int) (hw : I64 who) (p : ByteArray) (hp : p.size ≤ maxLen) (by_ : Int) (hst : Step17 s s2 p who by_) (hn : Lk.under p = true) :
    Calls Tryz.prog 104 #[dptr q, .int .i64 who, .string p, .int .i64 by_] w (CntP17 w q sh so s2 F a b c d fh fo V) := by
  have hup : Lk.upN p = Lk.up p := by unfold Lk.upN; rw [if_pos hn]
  obtain ⟨u, hue⟩ : ∃ u, u = Lk.up p := ⟨_, rfl⟩
  have husz : u.size ≤ maxLen := by rw [hue, ← hup]; exact Lk.upN_size hp
  obtain ⟨n1, hn1⟩ : ∃ n, n = Lk.kids s u := ⟨_, rfl⟩
  obtain ⟨n2, hn2⟩ : ∃ n, n = Lk.mine s u who := ⟨_, rfl⟩
  obtain ⟨k1, hk1⟩ : ∃ n, n = Lk.kids s2 u := ⟨_, rfl⟩
  obtain ⟨k2, hk2⟩ : ∃ n, n = Lk.mine s2 u who := ⟨_, rfl⟩
  have e1 := hst.k hn
  have e2 := hst.m hn
  rw [← hue, ← hn1, ← hk1] at e1
  rw [← hue, ← hn2, ← hk2] at e2
  have l1 : k1 ≤ 2000000 := by rw [hk1]; exact Nat.le_trans (Lk.kids_le s2 u) hl2
  have l2 : k2 ≤ 2000000 := by rw [hk2]; exact Nat.le_trans (Lk.mine_le s2 u who) (by rw [← hk1]; exact l1)
  have hw1 : IntKind.wrap .i64 ((n1 : Int) + by_) = (k1 : Int) := by rw [IntKind.wrap_i64]; omega
  have hw2 : IntKind.wrap .i64 ((n2 : Int) + by_) = (k2 : Int) := by rw [IntKind.wrap_i64]; omega
  obtain ⟨fu1, hu1⟩ := Up.some_is fu (pkey u) (some (.int .i64 (k1 : Int)))
  obtain ⟨fu2, hu2⟩ := Up.some_is fu1 (pkey u) none
  obtain ⟨fs1, hs1⟩ := Up.some_is fs (skey u who) (some (.int .i64 (k2 : Int)))
  obtain ⟨fs2, hs2⟩ := Up.some_is fs1 (skey u who) none
  have fin1 : ∀ g o, Up fu (pkey u) o g → cnt k1 = o → IsU s2 g := fun g o hg ho => hu.one (p := u) (by rw [← hk1, ho]; exact hg) fun q hq => hst.ok q fun _ => by rw [← hue]; exact hq
  have fin2 : ∀ g o, Up fs (skey u who) o g → cnt k2 = o → IsS s2 g := fun g o hg ho => hs.one (p := u) (z := who) husz hw (by rw [← hk2, ho]; exact hg) fun q z hq => hst.om q z fun _ => by rw [← hue]; exact hq
  have HG : Hid (Few fu 2000000 ∧ Few fs 2000000 ∧ 2000000 < maxLen ∧ u.size ≤ maxLen ∧ I64 who ∧ fu (pkey u) = cnt n1 ∧ fs (skey u who) = cnt n2) := ⟨hu.few.mono hl, hs.few.mono hl, by decide, husz, hw, by rw [hu.at_, hn1], by rw [hs.at_ u who husz hw, hn2]⟩
  have HU : Hid (Up fu (pkey u) (some (.int .i64 (k1 : Int))) fu1 ∧ Up fu1 (pkey u) none fu2 ∧ Up fs (skey u who) (some (.int .i64 (k2 : Int))) fs1 ∧ Up fs1 (skey u who) none fs2) := ⟨hu1, hu2, hs1, hs2⟩
  have HF : Hid ((∀ g o, Up fu (pkey u) o g → cnt k1 = o → IsU s2 g) ∧ (∀ g o, Up fs (skey u who) o g → cnt k2 = o → IsS s2 g)) := ⟨fin1, fin2⟩
  have HH : Hid (LkU w q sh so F a b c d fh fo fu fs V ∧ Pa.Std w ∧ p.size ≤ maxLen) := ⟨h, hS, hp⟩
  have HKP : Hid (keyOf Tryz.prog 9 (.string u) = some (pkey u)) := key_p husz
  have HPA : Hid (∀ w, Pa.Std w → Calls Tryz.prog 103 #[.string p] w fun e w' => e = .returned (.tuple #[.string u, .bool true]) ∧ Below w.heap.size w w') := by
    refine fun w hS => (parent_any17 p w hS hp).mono ?_
    rintro e w' ⟨rfl, hb⟩
    rw [hup, ← hue, hn]
    exact ⟨rfl, hb⟩
  clear h hu hs hl hl2 hS hp hst hn hup hue husz hn1 hn2 hk1 hk2 e1 e2 l1 l2 hu1 hu2 hs1 hs2 fin1 fin2 hw
  go_enter Tryz.func104, Tryz.ntmps104
  go_wp2_with fail
  refine (HPA.out w HH.out.2.1).mono ?_
  rintro e w1 ⟨rfl, hb⟩
  have HB1 : Hid (Below w.heap.size w w1) := hb
  clear hb
  go_upto_region 3 with fail
  obtain ⟨gm, hgm⟩ : ∃ g, g = w1.heap.size := ⟨_, rfl⟩
  have H2 : Hid (Cs17 w (w1.alloc (.cells #[.string u, .int .i64 who] 199)) q sh so F a b c d fh fo fu fs V gm u who) := by
    have hb2 := HB1.out.alloc HB1.out.size (.cells #[.string u, .int .i64 who] 199)
    exact ⟨HH.out.1.below hb2, by rw [hgm]; exact Cb.made w1 _ _, Moved.of_below F hb2⟩
  rw [← hgm]
  clear hgm
  generalize w1.alloc (.cells #[.string u, .int .i64 who] 199) = w2 at *
  have t2 := H2.out.lk.c2
  go_wp2_with (first
    | (at_lookup; refine wpList_lookM rfl _ _ 158 rfl 9 3 keyedP Tryz.underlying158 (.int .i64 0) (zeroN17 _) rfl H2.out.lk.mu (.string u) (pkey u) rfl HKP.out (.int .i64 (n1 : Int)) (by rw [HG.out.2.2.2.2.2.1]; exact cnt_getD n1) ?_)
    | (at_mapUpdate; refine wpList_storeM rfl _ _ _ 158 rfl 9 3 keyedP Tryz.underlying158 rfl H2.out.lk.mu HG.out.1 HG.out.2.2.1 (.string u) (.int .i64 (k1 : Int)) (pkey u) rfl rfl HKP.out HU.out.1 ?_))
  intro w3 hm ht
  have H3 : Hid (Cs17 w w3 q sh so F a b c d fh fo fu1 fs V gm u who) := H2.out.turn_u ht hm
  clear hm ht t2 H2
  go_upto_region 4 with fail
  refine wp_region_T (fun w' => SC17 w' q gm d u who n2) 10 (by kernel_rfl) ?_
  have H4 : Hid (Cs17 w w3.drew q sh so F a b c d fh fo fu1 fs V gm u who) := H3.out.below (Below.refl _ _).drew
  clear H3
  generalize w3.drew = w4 at *
  have HV : Hid ((fs (skey u who)).getD (.int .i64 0) = .int .i64 (n2 : Int)) := (show (fs (skey u who)).getD (.int .i64 0) = .int .i64 (n2 : Int) by rw [HG.out.2.2.2.2.2.2]; exact cnt_getD n2)
  refine' take_T (i := 0) (d := 29) (v := _) rfl rfl (by kernel_rfl) (by kernel_rfl) (by kernel_rfl) (by kernel_rfl) (by kernel_rfl) (fun _ _ _ h => h) (Or.inl ⟨by rfl, ?h0⟩) (H4.out.s HG.out.2.2.2.1 HG.out.2.2.2.2.1 HV.out) ?_
  case h0 =>
    intro w hSw
    obtain ⟨t0, t1, t2, t3⟩ := hSw
    go_simp
    with_reducible rfl
  simp only [List.setIfInBounds_toArray, List.set_cons_zero, List.set_cons_succ]
  refine' take_T (i := 1) (d := 30) (v := _) rfl rfl (by kernel_rfl) (by kernel_rfl) (by kernel_rfl) (by kernel_rfl) (by kernel_rfl) (fun _ _ _ h => h) (Or.inl ⟨by rfl, ?h1⟩) (H4.out.s HG.out.2.2.2.1 HG.out.2.2.2.2.1 HV.out) ?_
  case h1 =>
    intro w hSw
    obtain ⟨t0, t1, t2, t3⟩ := hSw
    go_simp
    with_reducible rfl
  simp only [List.setIfInBounds_toArray, List.set_cons_zero, List.set_cons_succ]
  refine' take_T (i := 2) (d := 31) (v := _) rfl rfl (by kernel_rfl) (by kernel_rfl) (by kernel_rfl) (by kernel_rfl) (by kernel_rfl) (fun _ _ _ h => h) (Or.inl ⟨by rfl, ?h2⟩) (H4.out.s HG.out.2.2.2.1 HG.out.2.2.2.2.1 HV.out) ?_
  case h2 =>
    intro w hSw
    obtain ⟨t0, t1, t2, t3⟩ := hSw
    go_simp
    with_reducible rfl
  simp only [List.setIfInBounds_toArray, List.set_cons_zero, List.set_cons_succ]
  refine' take_T (i := 3) (d := 32) (v := _) rfl rfl (by kernel_rfl) (by kernel_rfl) (by kernel_rfl) (by kernel_rfl) (by kernel_rfl) (fun _ _ _ h => h) (Or.inl ⟨by rfl, ?h3⟩) (H4.out.s HG.out.2.2.2.1 HG.out.2.2.2.2.1 HV.out) ?_
  case h3 =>
    intro w hSw
    obtain ⟨t0, t1, t2, t3⟩ := hSw
    go_simp
    with_reducible rfl
  simp only [List.setIfInBounds_toArray, List.set_cons_zero, List.set_cons_succ]
  refine' take_T (i := 4) (d := 33) (v := _) rfl rfl (by kernel_rfl) (by kernel_rfl) (by kernel_rfl) (by kernel_rfl) (by kernel_rfl) (fun _ _ _ h => h) (Or.inl ⟨by rfl, ?h4⟩) (H4.out.s HG.out.2.2.2.1 HG.out.2.2.2.2.1 HV.out) ?_
  case h4 =>
    intro w hSw
    obtain ⟨t0, t1, t2, t3⟩ := hSw
    go_simp
    with_reducible rfl
  simp only [List.setIfInBounds_toArray, List.set_cons_zero, List.set_cons_succ]
  refine' take_T (i := 5) (d := 34) (v := _) rfl rfl (by kernel_rfl) (by kernel_rfl) (by kernel_rfl) (by kernel_rfl) (by kernel_rfl) (fun _ _ _ h => h) (Or.inl ⟨by rfl, ?h5⟩) (H4.out.s HG.out.2.2.2.1 HG.out.2.2.2.2.1 HV.out) ?_
  case h5 =>
    intro w hSw
    obtain ⟨t0, t1, t2, t3⟩ := hSw
    go_simp
    with_reducible rfl
  simp only [List.setIfInBounds_toArray, List.set_cons_zero, List.set_cons_succ]
  refine' take_T (i := 6) (d := 35) (v := _) rfl rfl (by kernel_rfl) (by kernel_rfl) (by kernel_rfl) (by kernel_rfl) (by kernel_rfl) (fun _ _ _ h => h) (Or.inl ⟨by rfl, ?h6⟩) (H4.out.s HG.out.2.2.2.1 HG.out.2.2.2.2.1 HV.out) ?_
  case h6 =>
    intro w hSw
    obtain ⟨t0, t1, t2, t3⟩ := hSw
    go_simp
    with_reducible rfl
  simp only [List.setIfInBounds_toArray, List.set_cons_zero, List.set_cons_succ]
  refine' take_T (i := 7) (d := 36) (v := _) rfl rfl (by kernel_rfl) (by kernel_rfl) (by kernel_rfl) (by kernel_rfl) (by kernel_rfl) (fun _ _ _ h => h) (Or.inl ⟨by rfl, ?h7⟩) (H4.out.s HG.out.2.2.2.1 HG.out.2.2.2.2.1 HV.out) ?_
  case h7 =>
    intro w hSw
    obtain ⟨t0, t1, t2, t3⟩ := hSw
    go_simp
    with_reducible rfl
  simp only [List.setIfInBounds_toArray, List.set_cons_zero, List.set_cons_succ]
  obtain ⟨st, w5, f1, hrun, hf1, hm, ht, hst⟩ := H4.out.lk.ms.entry lawS Tryz.underlying159 zeroN17 HG.out.2.1 HG.out.2.2.1 (key_s HG.out.2.2.2.1 HG.out.2.2.2.2.1)
  rw [HV.out] at hrun hf1
  have hrun2 : (Instr.mapEntry 159 (.map (some d)) (.agg #[.string u, .int .i64 who])).run Tryz.prog w4 = .ok (.tuple #[.int .i64 (n2 : Int), .int .i64 (st : Int)]) w5 := hrun
  have H5 : Hid (Cs17 w w5 q sh so F a b c d fh fo fu1 f1 V gm u who) := H4.out.turn_s ht hm
  have HV5 : Hid ((f1 (skey u who)).getD (.int .i64 0) = .int .i64 (n2 : Int)) := (show (f1 (skey u who)).getD (.int .i64 0) = .int .i64 (n2 : Int) by rw [hf1.same]; rfl)
  obtain ⟨w6, hrun6, hm6, ht6⟩ := hst w5 (.int .i64 (k2 : Int)) fs1 HU.out.2.2.1 rfl
  have HR6 : Hid ((Instr.entryStore 159 (.map (some d)) (.int .i64 (st : Int)) (.int .i64 (k2 : Int))).run Tryz.prog w5 = .ok () w6) := hrun6
  have H6 : Hid (Cs17 w w6 q sh so F a b c d fh fo fu1 fs1 V gm u who) := H5.out.turn_s ht6 hm6
  clear hm ht hf1 hst hrun hrun6 hm6 ht6
  refine wpAnyT_ready (rs := [8]) (by kernel_rfl) (by simp) ?_
  refine AllReadyT.cons (o := _) rfl (fun KQ hKQ => ?_) AllReadyT.nil
  go_simp
  clear hrun2
  refine hKQ.out _ _ (fun _ => H5.out.s HG.out.2.2.2.1 HG.out.2.2.2.2.1 HV5.out) ?_
  clear hKQ KQ
  refine' take_T (i := 9) (d := 38) (v := _) rfl rfl (by kernel_rfl) (by kernel_rfl) (by kernel_rfl) (by kernel_rfl) (by kernel_rfl) (fun _ _ _ h => h) (Or.inl ⟨by rfl, ?h9⟩) (H5.out.s HG.out.2.2.2.1 HG.out.2.2.2.2.1 HV5.out) ?_
  case h9 =>
    intro w hSw
    go_simp
    with_reducible rfl
  simp only [List.setIfInBounds_toArray, List.set_cons_zero, List.set_cons_succ]
  refine wpAnyT_ready (rs := [10]) (by kernel_rfl) (by simp) ?_
  refine AllReadyT.cons (o := _) rfl (fun KQ hKQ => ?_) AllReadyT.nil
  have hrun6 := HR6.out
  go_simp
  clear hrun6
  refine hKQ.out _ _ (fun h => absurd rfl h) ?_
  clear hKQ KQ
  refine wpAnyT_done (by kernel_rfl) ?_ _
  clear H4 H5 HV HV5 HR6
  by_cases hz : k1 = 0
  · have hzb : ((k1 : Int) == 0) = true := by rw [hz]; rfl
    have HZ : Hid (IsU s2 fu2) := HF.out.1 fu2 _ (HU.out.1.over HU.out.2.1) (by unfold cnt; rw [if_pos hz])
    clear hz
    have t2 := H6.out.lk.c2
    go_wp2_with (first
      | (at_lookup; refine wpList_lookM rfl _ _ 158 rfl 9 3 keyedP Tryz.underlying158 (.int .i64 0) (zeroN17 _) rfl H6.out.lk.mu (.string u) (pkey u) rfl HKP.out (.int .i64 (k1 : Int)) (by rw [HU.out.1.same]; rfl) ?_)
      | (at_delete; refine wpList_dropM rfl _ _ 158 9 rfl 3 keyedP Tryz.underlying158 rfl H6.out.lk.mu (.string u) (pkey u) rfl HKP.out HU.out.2.1 ?_))
    intro w7 hm ht
    have H7 : Hid (IsU s2 fu2 ∧ Cs17 w w7 q sh so F a b c d fh fo fu2 fs1 V gm u who) := ⟨HZ.out, H6.out.turn_u ht hm⟩
    clear hm ht t2 H6 HZ
    go_upto_region 7 with fail
    have t3 := H7.out.2.lk.c3
    have c0 := H7.out.2.cb.cell 0
    have c1 := H7.out.2.cb.cell 1
    have l7 : ∀ n, (Instr.lookup 159 (.map (some d)) (.agg #[.string u, .int .i64 who]) false).run Tryz.prog (w7.drewN n) = .ok (.int .i64 (k2 : Int)) (w7.drewN n) := fun n => ((H7.out.2.below (below_drewN (Below.refl _ w7) n)).s HG.out.2.2.2.1 HG.out.2.2.2.2.1 (by rw [HU.out.2.2.1.same]; rfl)).2.2.2
    by_cases hy : k2 = 0
    · have hyb : ((k2 : Int) == 0) = true := by rw [hy]; rfl
      have HY : Hid (IsS s2 fs2) := HF.out.2 fs2 _ (HU.out.2.2.1.over HU.out.2.2.2) (by unfold cnt; rw [if_pos hy])
      clear hy
      go_quiet (fail)
      clear l7
      go_upto_region 8 with fail
      have H8 : Hid (Cs17 w (w7.drewN nq) q sh so F a b c d fh fo fu2 fs1 V gm u who) := H7.out.2.below (below_drewN (Below.refl _ w7) _)
      refine wp_region_T (fun w' => SC17 w' q gm d u who k2) 5 (by kernel_rfl) ?_
      have H9 : Hid (Cs17 w (w7.drewN nq).drew q sh so F a b c d fh fo fu2 fs1 V gm u who) := H8.out.below (Below.refl _ _).drew
      have HE : Hid (IsU s2 fu2) := H7.out.1
      clear H8 H7 t3 c0 c1
      generalize (w7.drewN nq).drew = w9 at *
      have HV9 : Hid ((fs1 (skey u who)).getD (.int .i64 0) = .int .i64 (k2 : Int)) := (show (fs1 (skey u who)).getD (.int .i64 0) = .int .i64 (k2 : Int) by rw [HU.out.2.2.1.same]; rfl)
      refine' take_T (i := 0) (d := 58) (v := _) rfl rfl (by kernel_rfl) (by kernel_rfl) (by kernel_rfl) (by kernel_rfl) (by kernel_rfl) (fun _ _ _ h => h) (Or.inl ⟨by rfl, ?h0⟩) (H9.out.s HG.out.2.2.2.1 HG.out.2.2.2.2.1 HV9.out) ?_
      case h0 =>
        intro w hSw
        obtain ⟨t0, t1, t2, t3⟩ := hSw
        go_simp
        with_reducible rfl
      simp only [List.setIfInBounds_toArray, List.set_cons_zero, List.set_cons_succ]
      refine' take_T (i := 1) (d := 59) (v := _) rfl rfl (by kernel_rfl) (by kernel_rfl) (by kernel_rfl) (by kernel_rfl) (by kernel_rfl) (fun _ _ _ h => h) (Or.inl ⟨by rfl, ?h1⟩) (H9.out.s HG.out.2.2.2.1 HG.out.2.2.2.2.1 HV9.out) ?_
      case h1 =>
        intro w hSw
        obtain ⟨t0, t1, t2, t3⟩ := hSw
        go_simp
        with_reducible rfl
      simp only [List.setIfInBounds_toArray, List.set_cons_zero, List.set_cons_succ]
      refine' take_T (i := 2) (d := 60) (v := _) rfl rfl (by kernel_rfl) (by kernel_rfl) (by kernel_rfl) (by kernel_rfl) (by kernel_rfl) (fun _ _ _ h => h) (Or.inl ⟨by rfl, ?h2⟩) (H9.out.s HG.out.2.2.2.1 HG.out.2.2.2.2.1 HV9.out) ?_
      case h2 =>
        intro w hSw
        obtain ⟨t0, t1, t2, t3⟩ := hSw
        go_simp
        with_reducible rfl
      simp only [List.setIfInBounds_toArray, List.set_cons_zero, List.set_cons_succ]
      refine' take_T (i := 3) (d := 61) (v := _) rfl rfl (by kernel_rfl) (by kernel_rfl) (by kernel_rfl) (by kernel_rfl) (by kernel_rfl) (fun _ _ _ h => h) (Or.inl ⟨by rfl, ?h3⟩) (H9.out.s HG.out.2.2.2.1 HG.out.2.2.2.2.1 HV9.out) ?_
      case h3 =>
        intro w hSw
        obtain ⟨t0, t1, t2, t3⟩ := hSw
        go_simp
        with_reducible rfl
      simp only [List.setIfInBounds_toArray, List.set_cons_zero, List.set_cons_succ]
      refine' take_T (i := 4) (d := 62) (v := _) rfl rfl (by kernel_rfl) (by kernel_rfl) (by kernel_rfl) (by kernel_rfl) (by kernel_rfl) (fun _ _ _ h => h) (Or.inl ⟨by rfl, ?h4⟩) (H9.out.s HG.out.2.2.2.1 HG.out.2.2.2.2.1 HV9.out) ?_
      case h4 =>
        intro w hSw
        obtain ⟨t0, t1, t2, t3⟩ := hSw
        go_simp
        with_reducible rfl
      simp only [List.setIfInBounds_toArray, List.set_cons_zero, List.set_cons_succ]
      obtain ⟨wa, hrun, hm, ht⟩ := H9.out.lk.ms.drop keyedS Tryz.underlying159 (key_s HG.out.2.2.2.1 HG.out.2.2.2.2.1) 0 HU.out.2.2.2
      have hrun2 : (Builtin.delete_ #[159, 199] 0 #[.map (some d), .agg #[.string u, .int .i64 who]]).run Tryz.prog w9 = .ok (.tuple #[]) wa := hrun
      have HA : Hid (Cs17 w wa q sh so F a b c d fh fo fu2 fs2 V gm u who) := H9.out.turn_s ht hm
      clear hm ht hrun
      refine wpAnyT_ready (rs := [5]) (by kernel_rfl) (by simp) ?_
      refine AllReadyT.cons (o := _) rfl (fun KQ hKQ => ?_) AllReadyT.nil
      go_simp
      clear hrun2
      refine hKQ.out _ _ (fun h => absurd rfl h) ?_
      clear hKQ KQ
      refine wpAnyT_done (by kernel_rfl) ?_ _
      go_wp2
      go_end0
      exact ⟨rfl, fu2, fs2, HA.out.lk, HE.out, HY.out, HA.out.mv⟩
    · have hyb : ((k2 : Int) == 0) = false := by simp; omega
      have HY : Hid (IsS s2 fs1) := HF.out.2 fs1 _ HU.out.2.2.1 (cnt_some hy)
      clear hy
      go_quiet (fail)
      clear l7
      go_wp2
      go_end0
      exact ⟨rfl, fu2, fs1, (H7.out.2.lk).below (below_drewN (Below.refl _ w7) _), H7.out.1, HY.out, H7.out.2.mv.trans (Moved.of_below F (below_drewN (Below.refl _ w7) _))⟩
  · have hzb : ((k1 : Int) == 0) = false := by simp; omega
    have HZ : Hid (IsU s2 fu1) := HF.out.1 fu1 _ HU.out.1 (cnt_some hz)
    clear hz
    have t2 := H6.out.lk.c2
    go_wp2_with (first
      | (at_lookup; refine wpList_lookM rfl _ _ 158 rfl 9 3 keyedP Tryz.underlying158 (.int .i64 0) (zeroN17 _) rfl H6.out.lk.mu (.string u) (pkey u) rfl HKP.out (.int .i64 (k1 : Int)) (by rw [HU.out.1.same]; rfl) ?_)
      | (at_delete; refine wpList_dropM rfl _ _ 158 9 rfl 3 keyedP Tryz.underlying158 rfl H6.out.lk.mu (.string u) (pkey u) rfl HKP.out HU.out.2.1 ?_))
    have H7 : Hid (IsU s2 fu1 ∧ Cs17 w w6 q sh so F a b c d fh fo fu1 fs1 V gm u who) := ⟨HZ.out, H6.out⟩
    clear t2 H6 HZ
    generalize w6 = w7 at *
    have t3 := H7.out.2.lk.c3
    have c0 := H7.out.2.cb.cell 0
    have c1 := H7.out.2.cb.cell 1
    have l7 : ∀ n, (Instr.lookup 159 (.map (some d)) (.agg #[.string u, .int .i64 who]) false).run Tryz.prog (w7.drewN n) = .ok (.int .i64 (k2 : Int)) (w7.drewN n) := fun n => ((H7.out.2.below (below_drewN (Below.refl _ w7) n)).s HG.out.2.2.2.1 HG.out.2.2.2.2.1 (by rw [HU.out.2.2.1.same]; rfl)).2.2.2
    by_cases hy : k2 = 0
    · have hyb : ((k2 : Int) == 0) = true := by rw [hy]; rfl
      have HY : Hid (IsS s2 fs2) := HF.out.2 fs2 _ (HU.out.2.2.1.over HU.out.2.2.2) (by unfold cnt; rw [if_pos hy])
      clear hy
      go_quiet (fail)
      clear l7
      go_upto_region 8 with fail
      have H8 : Hid (Cs17 w (w7.drewN nq) q sh so F a b c d fh fo fu1 fs1 V gm u who) := H7.out.2.below (below_drewN (Below.refl _ w7) _)
      refine wp_region_T (fun w' => SC17 w' q gm d u who k2) 5 (by kernel_rfl) ?_
      have H9 : Hid (Cs17 w (w7.drewN nq).drew q sh so F a b c d fh fo fu1 fs1 V gm u who) := H8.out.below (Below.refl _ _).drew
      have HE : Hid (IsU s2 fu1) := H7.out.1
      clear H8 H7 t3 c0 c1
      generalize (w7.drewN nq).drew = w9 at *
      have HV9 : Hid ((fs1 (skey u who)).getD (.int .i64 0) = .int .i64 (k2 : Int)) := (show (fs1 (skey u who)).getD (.int .i64 0) = .int .i64 (k2 : Int) by rw [HU.out.2.2.1.same]; rfl)
      refine' take_T (i := 0) (d := 58) (v := _) rfl rfl (by kernel_rfl) (by kernel_rfl) (by kernel_rfl) (by kernel_rfl) (by kernel_rfl) (fun _ _ _ h => h) (Or.inl ⟨by rfl, ?h0⟩) (H9.out.s HG.out.2.2.2.1 HG.out.2.2.2.2.1 HV9.out) ?_
      case h0 =>
        intro w hSw
        obtain ⟨t0, t1, t2, t3⟩ := hSw
        go_simp
        with_reducible rfl
      simp only [List.setIfInBounds_toArray, List.set_cons_zero, List.set_cons_succ]
      refine' take_T (i := 1) (d := 59) (v := _) rfl rfl (by kernel_rfl) (by kernel_rfl) (by kernel_rfl) (by kernel_rfl) (by kernel_rfl) (fun _ _ _ h => h) (Or.inl ⟨by rfl, ?h1⟩) (H9.out.s HG.out.2.2.2.1 HG.out.2.2.2.2.1 HV9.out) ?_
      case h1 =>
        intro w hSw
        obtain ⟨t0, t1, t2, t3⟩ := hSw
        go_simp
        with_reducible rfl
      simp only [List.setIfInBounds_toArray, List.set_cons_zero, List.set_cons_succ]
      refine' take_T (i := 2) (d := 60) (v := _) rfl rfl (by kernel_rfl) (by kernel_rfl) (by kernel_rfl) (by kernel_rfl) (by kernel_rfl) (fun _ _ _ h => h) (Or.inl ⟨by rfl, ?h2⟩) (H9.out.s HG.out.2.2.2.1 HG.out.2.2.2.2.1 HV9.out) ?_
      case h2 =>
        intro w hSw
        obtain ⟨t0, t1, t2, t3⟩ := hSw
        go_simp
        with_reducible rfl
      simp only [List.setIfInBounds_toArray, List.set_cons_zero, List.set_cons_succ]
      refine' take_T (i := 3) (d := 61) (v := _) rfl rfl (by kernel_rfl) (by kernel_rfl) (by kernel_rfl) (by kernel_rfl) (by kernel_rfl) (fun _ _ _ h => h) (Or.inl ⟨by rfl, ?h3⟩) (H9.out.s HG.out.2.2.2.1 HG.out.2.2.2.2.1 HV9.out) ?_
      case h3 =>
        intro w hSw
        obtain ⟨t0, t1, t2, t3⟩ := hSw
        go_simp
        with_reducible rfl
      simp only [List.setIfInBounds_toArray, List.set_cons_zero, List.set_cons_succ]
      refine' take_T (i := 4) (d := 62) (v := _) rfl rfl (by kernel_rfl) (by kernel_rfl) (by kernel_rfl) (by kernel_rfl) (by kernel_rfl) (fun _ _ _ h => h) (Or.inl ⟨by rfl, ?h4⟩) (H9.out.s HG.out.2.2.2.1 HG.out.2.2.2.2.1 HV9.out) ?_
      case h4 =>
        intro w hSw
        obtain ⟨t0, t1, t2, t3⟩ := hSw
        go_simp
        with_reducible rfl
      simp only [List.setIfInBounds_toArray, List.set_cons_zero, List.set_cons_succ]
      obtain ⟨wa, hrun, hm, ht⟩ := H9.out.lk.ms.drop keyedS Tryz.underlying159 (key_s HG.out.2.2.2.1 HG.out.2.2.2.2.1) 0 HU.out.2.2.2
      have hrun2 : (Builtin.delete_ #[159, 199] 0 #[.map (some d), .agg #[.string u, .int .i64 who]]).run Tryz.prog w9 = .ok (.tuple #[]) wa := hrun
      have HA : Hid (Cs17 w wa q sh so F a b c d fh fo fu1 fs2 V gm u who) := H9.out.turn_s ht hm
      clear hm ht hrun
      refine wpAnyT_ready (rs := [5]) (by kernel_rfl) (by simp) ?_
      refine AllReadyT.cons (o := _) rfl (fun KQ hKQ => ?_) AllReadyT.nil
      go_simp
      clear hrun2
      refine hKQ.out _ _ (fun h => absurd rfl h) ?_
      clear hKQ KQ
      refine wpAnyT_done (by kernel_rfl) ?_ _
      go_wp2
      go_end0
      exact ⟨rfl, fu1, fs2, HA.out.lk, HE.out, HY.out, HA.out.mv⟩
    · have hyb : ((k2 : Int) == 0) = false := by simp; omega
      have HY : Hid (IsS s2 fs1) := HF.out.2 fs1 _ HU.out.2.2.1 (cnt_some hy)
      clear hy
      go_quiet (fail)
      clear l7
      go_wp2
      go_end0
      exact ⟨rfl, fu1, fs1, (H7.out.2.lk).below (below_drewN (Below.refl _ w7) _), H7.out.1, HY.out, H7.out.2.mv.trans (Moved.of_below F (below_drewN (Below.refl _ w7) _))⟩
theorem count_any17 (h : LkU w q sh so F a b c d fh fo fu fs V) (hu : IsU s fu) (hs : IsS s fs) (hl : s.length ≤ 2000000) (hl2 : s2.length ≤ 2000000) (hS : Pa.Std w) (who : Int) (hw : I64 who) (p : ByteArray) (hp : p.size ≤ maxLen) (by_ : Int) (hst : Step17 s s2 p who by_) :
    Calls Tryz.prog 104 #[dptr q, .int .i64 who, .string p, .int .i64 by_] w (CntP17 w q sh so s2 F a b c d fh fo V) := by
  cases hn : Lk.under p with
  | false => exact count_no17 h hu hs hS who p hp by_ hst hn
  | true => exact count_yes17 h hu hs hl hl2 hS who hw p hp by_ hst hn
end
end Go.Proofs.YtboejbjobjhajaaGreatDoor
namespace Go.Proofs.YtboejbjobjhajaaGreatDoor
open Go.RowKit

set_option maxRecDepth 20000 in
set_option maxHeartbeats 1000000 in
theorem sclone_any17 (s : ByteArray) (w : World) (hs : s.size ≤ 281474976710656) :
    Calls Tryz.prog 97 #[.string s] w fun e w' => e = .returned (.string s) ∧ Below w.heap.size w w' := by
  go_enter Tryz.func97, Tryz.ntmps97
  go_wp2_with fail
  refine (Tryz.stringslite_Clone s w hs).mono ?_
  rintro e w' ⟨rfl, hb⟩
  have HB : Hid (Below w.heap.size w w') := hb
  clear hb
  go_wp2
  go_ret
  exact ⟨rfl, HB.out⟩
theorem app_str17 (w : World) (v : Value) (ls : List ByteArray) (hown : w.ownsRow 0 9 1 v ls.length (sc ls)) (g : Nat) (x : ByteArray) (hc : w.cell? ⟨g, 0, none⟩ = some (.string x)) (hN : ls.length ≤ 3000000) (ty : TypeId) :
    ∃ v' w', (Builtin.append_ #[71, 71] ty #[v, .slice (some ⟨g, 0, none⟩) 1 1]).run Tryz.prog w = .ok v' w' ∧ w'.ownsRow 0 9 1 v' (ls ++ [x]).length (sc (ls ++ [x])) ∧ w.grownBy w' v.ownBlock ∧ (v'.ownBlock = v.ownBlock ∨ v'.ownBlock = some w.heap.size) := by
  obtain ⟨i0, hi, hz0, hz1, hz2⟩ := info_parts infoText
  obtain ⟨v', w', hr, h2, h3, _, h5⟩ := run_append_own_at (P := Tryz.prog) w 0 71 ty 9 i0 _ 1 16 Tryz.underlying71 hi hz0 hz1 hz2 rfl (by decide) v ls.length (sc ls) hown ⟨g, 0, none⟩ 1 1 (sc [x]) (by simp [sc]) (fun j u hj => by
    match j, hj with
    | 0, hj =>
      simp [sc] at hj
      subst hj
      rw [Addr.add_lit]
      exact hc
    | (j + 1), hj => simp [sc] at hj) (sc_one [x]) (by unfold maxLen; omega) (by omega) (Nat.zero_le _)
  refine ⟨v', w', hr, ?_, h3, h5⟩
  have e : sc (ls ++ [x]) = sc ls ++ sc [x] := by unfold sc; rw [List.map_append]
  rw [e, List.length_append]
  exact h2
theorem wp_str17 {o : Oper} {a : Act} {K : Act → World → Prop} {Q : Exit → Act → World → Prop} (s x : Operand)
    (ho : o.op = .call { callee := .builtin .append, args := #[s, x], argTypes := #[71, 71] }) (d : Nat) (hd : o.dst = some d)
    (v : Value) (ls : List ByteArray) (g : Nat) (y : ByteArray) (w : World) (hs : a.eval s = v) (hx : a.eval x = .slice (some ⟨g, 0, none⟩) 1 1) (hown : w.ownsRow 0 9 1 v ls.length (sc ls)) (hc : w.cell? ⟨g, 0, none⟩ = some (.string y)) (hN : ls.length ≤ 3000000)
    (h : ∀ v' w', w'.ownsRow 0 9 1 v' (ls ++ [y]).length (sc (ls ++ [y])) → w.grownBy w' v.ownBlock → (v'.ownBlock = v.ownBlock ∨ v'.ownBlock = some w.heap.size) → K { a with tmps := a.tmps.setIfInBounds d v' } w') : o.wp Tryz.prog a w K Q := by
  obtain ⟨v', w', hr, h1, h2, h3⟩ := app_str17 w v ls hown g y hc hN o.type
  have k : K (a.put o.dst v') w' := by
    unfold Act.put
    rw [hd]
    exact h v' w' h1 h2 h3
  unfold Oper.wp execOp
  simp only [ho, resolve, invoke, builtin, Sem.run_bind, Sem.run_pure, Result.andThen_ok, List.map_toArray, List.map_cons, List.map_nil, hs, hx, hr]
  exact k
def old17 (so : Lk.St) (V : Int → Value) (who : Int) : Value := if Lk.own so who = [] then .slice none 0 0 else V who
section
variable {w w1 w2 w3 : World} {q a b c d : Nat} {sh so s : Lk.St} {F : Nat → Prop} {fh fo fu fs fo' : Lit → Option Value} {V : Int → Value} {v' : Value} {p : ByteArray} {who : Int}
theorem LkU.old_row (h : LkU w q sh so F a b c d fh fo fu fs V) (who : Int) : w.ownsRow 0 9 1 (old17 so V who) (Lk.own so who).length (sc (Lk.own so who)) := by
  unfold old17
  by_cases e : Lk.own so who = []
  · rw [if_pos e, e]
    exact World.ownsRow_nil _ _ _ _
  · rw [if_neg e]
    exact h.row who e
theorem old_in17 {k : Nat} (hk : (old17 so V who).ownBlock = some k) : Lk.own so who ≠ [] ∧ (V who).ownBlock = some k := by
  unfold old17 at hk
  by_cases e : Lk.own so who = []
  · rw [if_pos e] at hk
    cases hk
  · rw [if_neg e] at hk
    exact ⟨e, hk⟩
theorem LkU.old_get (h : LkU w q sh so F a b c d fh fo fu fs V) (who : Int) : (fo (ikey who)).getD (.slice none 0 0) = old17 so V who := by
  rw [h.io.at_]
  unfold old17
  split <;> rfl
theorem LkU.app_keep (h : LkU w1 q sh so F a b c d fh fo fu fs V) (hg : w1.grownBy w2 (old17 so V who).ownBlock) : w2.heap[q]? = w1.heap[q]? ∧ w2.heap[a]? = w1.heap[a]? ∧ w2.heap[b]? = w1.heap[b]? ∧ w2.heap[c]? = w1.heap[c]? ∧ w2.heap[d]? = w1.heap[d]? ∧ ∀ z, Lk.own so z ≠ [] → z ≠ who → ∀ k, (V z).ownBlock = some k → w2.heap[k]? = w1.heap[k]? := by
  refine ⟨hg.block q h.blk.lt fun e => ?_, hg.block a h.mh.lt fun e => ?_, hg.block b h.mo.lt fun e => ?_, hg.block c h.mu.lt fun e => ?_, hg.block d h.ms.lt fun e => ?_, fun z hz hne k hk => hg.block k ((h.row z hz).lt k hk).2 fun e => ?_⟩
  · obtain ⟨h1, h2⟩ := old_in17 e.symm
    exact h.blk.apart (h.row who h1) (by decide) h2
  · obtain ⟨h1, h2⟩ := old_in17 e.symm
    exact h.mh.ne_row (h.row who h1) h2
  · obtain ⟨h1, h2⟩ := old_in17 e.symm
    exact h.mo.ne_row (h.row who h1) h2
  · obtain ⟨h1, h2⟩ := old_in17 e.symm
    exact h.mu.ne_row (h.row who h1) h2
  · obtain ⟨h1, h2⟩ := old_in17 e.symm
    exact h.ms.ne_row (h.row who h1) h2
  · obtain ⟨h1, h2⟩ := old_in17 e.symm
    exact h.apart z who hz h1 hne k hk h2
theorem LkU.push_o (h : LkU w1 q sh so F a b c d fh fo fu fs V) (hg : w1.grownBy w2 (old17 so V who).ownBlock) (hrow : w2.ownsRow 0 9 1 v' (Lk.own so who ++ [p]).length (sc (Lk.own so who ++ [p]))) (hwh : v'.ownBlock = (old17 so V who).ownBlock ∨ v'.ownBlock = some w1.heap.size)
    (ht : w2.mapTurned w3 b) (hm : Mq w3 2 b fo') (hi : Up fo (ikey who) (some v') fo') :
    LkU w3 q sh (so ++ [⟨p, who⟩]) (fun k => F k ∨ v'.ownBlock = some k) a b c d fh fo' fu fs (fun z => if z = who then v' else V z) ∧ Moved w1 w3 F (fun k => F k ∨ v'.ownBlock = some k) := by
  obtain ⟨kq, ka, kb, kc, kd, kr⟩ := h.app_keep hg
  obtain ⟨n1, n2, n3, n4, n5, n6⟩ := h.ne
  have hs := hg.size
  have m2 : Mq w2 2 b fo := h.mo.keep kb
  have hvb : v'.ownBlock ≠ some b := m2.ne_row hrow
  have hown : ∀ z, Lk.own (so ++ [⟨p, who⟩]) z = if z = who then Lk.own so who ++ [p] else Lk.own so z := fun z => by
    rw [Lk.own_snoc]
    by_cases e : z = who
    · rw [if_pos e.symm, if_pos e, e]
    · rw [if_neg (fun e2 => e e2.symm), if_neg e, List.append_nil]
  have t2 : ∀ k, k < w1.heap.size → k ≠ b → w3.heap[k]? = w2.heap[k]? := fun k hk hne => turned_keep ht (by omega) hne
  have hrow3 : w3.ownsRow 0 9 1 v' (Lk.own so who ++ [p]).length (sc (Lk.own so who ++ [p])) := row_stays hrow fun k hk => turned_keep ht (hrow.lt k hk).2 fun e => hvb (by rw [hk, e])
  have hne : ∀ z, z ≠ who → Lk.own (so ++ [⟨p, who⟩]) z ≠ [] → Lk.own so z ≠ [] := fun z e h1 => by rw [hown z, if_neg e] at h1; exact h1
  have hfresh : ∀ z, z ≠ who → Lk.own so z ≠ [] → ∀ k, v'.ownBlock = some k → (V z).ownBlock ≠ some k := fun z e hz k hk hk2 => by
    rcases hwh with h1 | h1
    · rw [h1] at hk
      obtain ⟨h2, h3⟩ := old_in17 hk
      exact h.apart z who hz h2 e k hk2 h3
    · rw [hk, Option.some.injEq] at h1
      have := ((h.row z hz).lt k hk2).2
      omega
  have hrowz : ∀ z, z ≠ who → Lk.own so z ≠ [] → w3.ownsRow 0 9 1 (V z) (Lk.own so z).length (sc (Lk.own so z)) := fun z e hz => row_stays (h.row z hz) fun k hk => by
    have hlt := ((h.row z hz).lt k hk).2
    rw [t2 k hlt (fun e2 => h.mo.ne_row (h.row z hz) (by rw [hk, e2])), kr z hz e k hk]
  refine ⟨⟨h.blk.keep ((t2 q h.blk.lt (h.mo.ne h.blk).symm).trans kq), h.mh.keep ((t2 a h.mh.lt n1).trans ka), hm, h.mu.keep ((t2 c h.mu.lt n4.symm).trans kc), h.ms.keep ((t2 d h.ms.lt n5.symm).trans kd), h.ih, ?_, fun z hz => ?_, fun z y hz hy hzy k hk => ?_, h.ne, Or.inl h.gq, ⟨Or.inl h.gm.1, Or.inl h.gm.2.1, Or.inl h.gm.2.2.1, Or.inl h.gm.2.2.2⟩, fun z hz k hk => ?_, fun k hk => ?_⟩, ?_⟩
  · refine h.io.one (z := who) ?_ fun y e => ⟨by rw [hown y, if_neg e], by simp only [if_neg e]⟩
    rw [hown who, if_pos rfl, if_neg (by simp)]
    simp only [if_pos]
    exact hi
  · by_cases e : z = who
    · simp only [e, if_pos]
      rw [hown who, if_pos rfl]
      exact hrow3
    · simp only [if_neg e]
      rw [hown z, if_neg e]
      exact hrowz z e (hne z e hz)
  · by_cases e : z = who
    · simp only [e, if_pos] at hk
      have e2 : y ≠ who := fun e2 => hzy (by rw [e, e2])
      simp only [if_neg e2]
      exact hfresh y e2 (hne y e2 hy) k hk
    · simp only [if_neg e] at hk
      by_cases e2 : y = who
      · simp only [e2, if_pos]
        exact fun hk2 => hfresh z e (hne z e hz) k hk2 hk
      · simp only [if_neg e2]
        exact h.apart z y (hne z e hz) (hne y e2 hy) hzy k hk
  · by_cases e : z = who
    · simp only [e, if_pos] at hk
      exact Or.inr hk
    · simp only [if_neg e] at hk
      exact Or.inl (h.gv z (hne z e hz) k hk)
  · have h3 := ht.grown.size
    rcases hk with hk | hk
    · have := h.flt k hk
      omega
    · have := (hrow.lt k hk).2
      omega
  · have hg3 := ht.grown
    refine ⟨hg3.os.trans hg.os, hg3.tape.trans hg.tape, hg3.output.trans hg.output, Nat.le_trans hs hg3.size, fun k hk hF => ?_, fun k hk => ?_⟩
    · rw [t2 k hk (fun e => hF (e ▸ h.gm.2.1))]
      refine hg.block k hk fun e => ?_
      obtain ⟨h1, h2⟩ := old_in17 e.symm
      exact hF (h.gv who h1 k h2)
    · rcases hk with hk | hk
      · exact Or.inl hk
      · rcases hwh with h1 | h1
        · rw [h1] at hk
          obtain ⟨h2, h3⟩ := old_in17 hk
          exact Or.inl (h.gv who h2 k h3)
        · rw [hk, Option.some.injEq] at h1
          exact Or.inr (by omega)
def SO17 (w : World) (q b : Nat) (who : Int) (v : Value) : Prop := w.cell? ⟨q, 1, none⟩ = some (.map (some b)) ∧ (Instr.lookup 157 (.map (some b)) (.int .i64 who) false).run Tryz.prog w = .ok v w
theorem LkU.sO (h : LkU w q sh so F a b c d fh fo fu fs V) (hw : I64 who) : SO17 w q b who (old17 so V who) := by
  refine ⟨h.c1, ?_⟩
  have e := h.mo.look keyedI Tryz.underlying157 (zeroSs17 _) (key_i hw)
  rw [h.old_get who] at e
  exact e
theorem LkU.sO_app (h : LkU w1 q sh so F a b c d fh fo fu fs V) (hw : I64 who) (hg : w1.grownBy w2 (old17 so V who).ownBlock) : SO17 w2 q b who (old17 so V who) ∧ Mq w2 2 b fo := by
  obtain ⟨kq, _, kb, _⟩ := h.app_keep hg
  refine ⟨⟨(h.blk.keep kq).cell 1, ?_⟩, h.mo.keep kb⟩
  have e := (h.mo.keep kb).look keyedI Tryz.underlying157 (zeroSs17 _) (key_i hw)
  rw [h.old_get who] at e
  exact e
end
def TakP17 (w : World) (q : Nat) (s2 : Lk.St) (F : Nat → Prop) (e : Ending) (w' : World) : Prop := e = .returned (.tuple #[]) ∧ ∃ F', LLk w' q s2 F' ∧ Moved w w' F F'
section
variable {w : World} {q a b c d m : Nat} {s : Lk.St} {F : Nat → Prop} {fh fo fu fs : Lit → Option Value} {V : Int → Value}
set_option maxRecDepth 20000 in
set_option maxHeartbeats 8000000 in
theorem take_new17 (h : LkU w q s s F a b c d fh fo fu fs V) (hu : IsU s fu) (hs : IsS s fs) (hl : s.length ≤ 1999999) (hlo : ∀ k, F k → 6 ≤ k) (hS : Pa.Std w) (who : Int) (hw : I64 who) (p : ByteArray) (hg : Lk.good p = true) (hn : Lk.held s p = none) :
    Calls Tryz.prog 102 #[dptr q, .int .i64 who, .string p] w (TakP17 w q (s ++ [⟨p, who⟩]) F) := by
  have hpz : p.size ≤ 200 := by
    have h1 := (Pl.good_parts (show Pl.goodB p.data.toList = true from hg)).2.2
    rw [Pa.sz_list] at h1
    exact h1
  have hp : p.size ≤ maxLen := by unfold maxLen; omega
  obtain ⟨fh1, hh1⟩ := Up.some_is fh (pkey p) (some (.int .i64 who))
  have hih : IsH (s ++ [⟨p, who⟩]) fh1 := h.ih.one (p := p) (by rw [Lk.held_snoc, hn, if_pos rfl]; exact hh1) fun q hq => by rw [Lk.held_snoc, if_neg (fun e => hq e.symm), Option.or_none]
  have HLO : Hid (∀ k, F k → 6 ≤ k) := hlo
  have HH : Hid (LkU w q s s F a b c d fh fo fu fs V ∧ Pa.Std w ∧ I64 who ∧ p.size ≤ 200 ∧ p.size ≤ maxLen) := ⟨h, hS, hw, hpz, hp⟩
  have HI : Hid (IsU s fu ∧ IsS s fs ∧ s.length ≤ 1999999 ∧ Few fh 2000000 ∧ Few fo 2000000 ∧ 2000000 < maxLen ∧ Up fh (pkey p) (some (.int .i64 who)) fh1 ∧ IsH (s ++ [⟨p, who⟩]) fh1 ∧ fh (pkey p) = none) := ⟨hu, hs, hl, h.ih.few.mono (by omega), h.io.few.mono (by omega), by decide, hh1, hih, by rw [h.ih.at_, hn]; rfl⟩
  have HK : Hid (keyOf Tryz.prog 9 (.string p) = some (pkey p) ∧ keyOf Tryz.prog 2 (.int .i64 who) = some (ikey who)) := ⟨key_p hp, key_i hw⟩
  have t0 := h.c0
  clear h hu hs hl hS hw hg hn hpz hp hh1 hih hlo
  go_enter Tryz.func102, Tryz.ntmps102
  go_wp2_with (at_lookup; refine wpList_lookMok rfl _ _ 156 rfl 9 2 keyedP Tryz.underlying156 (.int .i64 0) (zeroI17 _) rfl HH.out.1.mh (.string p) (pkey p) rfl HK.out.1 (.int .i64 0) false (by rw [HI.out.2.2.2.2.2.2.2.2]; rfl) (by rw [HI.out.2.2.2.2.2.2.2.2]; rfl) ?_)
  go_wp2_with fail
  refine (sclone_any17 p w (by have := HH.out.2.2.2.1; omega)).mono ?_
  rintro e w1 ⟨rfl, hb⟩
  have H1 : Hid (LkU w1 q s s F a b c d fh fo fu fs V ∧ Moved w w1 F F) := ⟨HH.out.1.below hb, Moved.of_below F hb⟩
  clear hb t0
  have t0 := H1.out.1.c0
  go_wp2_with (at_mapUpdate; refine wpList_storeM rfl _ _ _ 156 rfl 9 2 keyedP Tryz.underlying156 rfl H1.out.1.mh HI.out.2.2.2.1 HI.out.2.2.2.2.2.1 (.string p) (.int .i64 who) (pkey p) rfl rfl HK.out.1 HI.out.2.2.2.2.2.2.1 ?_)
  intro w2 hm ht
  have H2 : Hid (LkU w2 q (s ++ [⟨p, who⟩]) s F a b c d fh1 fo fu fs V ∧ Moved w w2 F F) := ⟨H1.out.1.turn_h ht hm HI.out.2.2.2.2.2.2.2.1, H1.out.2.trans (Moved.turned ht H1.out.1.gm.1)⟩
  clear hm ht t0 H1
  go_upto_region 4 with fail
  obtain ⟨vO, hvO⟩ : ∃ z, z = old17 s V who := ⟨_, rfl⟩
  have HVO : Hid (vO = old17 s V who) := hvO
  clear hvO
  refine wp_region_T (fun w' => SO17 w' q b who vO) 14 (by kernel_rfl) ?_
  have H3 : Hid (LkU w2.drew q (s ++ [⟨p, who⟩]) s F a b c d fh1 fo fu fs V ∧ Moved w w2.drew F F) := ⟨H2.out.1.below (Below.refl _ _).drew, H2.out.2.trans (Moved.of_below F (Below.refl _ _).drew)⟩
  clear H2
  generalize w2.drew = w3 at *
  have HS3 : Hid (SO17 w3 q b who vO) := (show SO17 w3 q b who vO by rw [HVO.out]; exact H3.out.1.sO HH.out.2.2.1)
  refine' take_T (i := 0) (d := 26) (v := _) rfl rfl (by kernel_rfl) (by kernel_rfl) (by kernel_rfl) (by kernel_rfl) (by kernel_rfl) (fun _ _ _ h => h) (Or.inl ⟨by rfl, ?h0⟩) (HS3.out) ?_
  case h0 =>
    intro w hSw
    obtain ⟨t0, t1⟩ := hSw
    go_simp
    with_reducible rfl
  simp only [List.setIfInBounds_toArray, List.set_cons_zero, List.set_cons_succ]
  refine' take_T (i := 1) (d := 27) (v := _) rfl rfl (by kernel_rfl) (by kernel_rfl) (by kernel_rfl) (by kernel_rfl) (by kernel_rfl) (fun _ _ _ h => h) (Or.inl ⟨by rfl, ?h1⟩) (HS3.out) ?_
  case h1 =>
    intro w hSw
    obtain ⟨t0, t1⟩ := hSw
    go_simp
    with_reducible rfl
  simp only [List.setIfInBounds_toArray, List.set_cons_zero, List.set_cons_succ]
  refine' take_T (i := 2) (d := 28) (v := _) rfl rfl (by kernel_rfl) (by kernel_rfl) (by kernel_rfl) (by kernel_rfl) (by kernel_rfl) (fun _ _ _ h => h) (Or.inl ⟨by rfl, ?h2⟩) (HS3.out) ?_
  case h2 =>
    intro w hSw
    obtain ⟨t0, t1⟩ := hSw
    go_simp
    with_reducible rfl
  simp only [List.setIfInBounds_toArray, List.set_cons_zero, List.set_cons_succ]
  refine' take_T (i := 3) (d := 29) (v := _) rfl rfl (by kernel_rfl) (by kernel_rfl) (by kernel_rfl) (by kernel_rfl) (by kernel_rfl) (fun _ _ _ h => h) (Or.inl ⟨by rfl, ?h3⟩) (HS3.out) ?_
  case h3 =>
    intro w hSw
    obtain ⟨t0, t1⟩ := hSw
    go_simp
    with_reducible rfl
  simp only [List.setIfInBounds_toArray, List.set_cons_zero, List.set_cons_succ]
  refine' take_T (i := 4) (d := 30) (v := _) rfl rfl (by kernel_rfl) (by kernel_rfl) (by kernel_rfl) (by kernel_rfl) (by kernel_rfl) (fun _ _ _ h => h) (Or.inl ⟨by rfl, ?h4⟩) (HS3.out) ?_
  case h4 =>
    intro w hSw
    obtain ⟨t0, t1⟩ := hSw
    go_simp
    with_reducible rfl
  simp only [List.setIfInBounds_toArray, List.set_cons_zero, List.set_cons_succ]
  refine' take_T (i := 5) (d := 31) (v := _) rfl rfl (by kernel_rfl) (by kernel_rfl) (by kernel_rfl) (by kernel_rfl) (by kernel_rfl) (fun _ _ _ h => h) (Or.inl ⟨by rfl, ?h5⟩) (HS3.out) ?_
  case h5 =>
    intro w hSw
    obtain ⟨t0, t1⟩ := hSw
    go_simp
    with_reducible rfl
  simp only [List.setIfInBounds_toArray, List.set_cons_zero, List.set_cons_succ]
  refine' take_T (i := 6) (d := 32) (v := _) rfl rfl (by kernel_rfl) (by kernel_rfl) (by kernel_rfl) (by kernel_rfl) (by kernel_rfl) (fun _ _ _ h => h) (Or.inl ⟨by rfl, ?h6⟩) (HS3.out) ?_
  case h6 =>
    intro w hSw
    obtain ⟨t0, t1⟩ := hSw
    go_simp
    with_reducible rfl
  simp only [List.setIfInBounds_toArray, List.set_cons_zero, List.set_cons_succ]
  refine' take_T (i := 7) (d := 33) (v := _) rfl rfl (by kernel_rfl) (by kernel_rfl) (by kernel_rfl) (by kernel_rfl) (by kernel_rfl) (fun _ _ _ h => h) (Or.inl ⟨by rfl, ?h7⟩) (HS3.out) ?_
  case h7 =>
    intro w hSw
    obtain ⟨t0, t1⟩ := hSw
    go_simp
    with_reducible rfl
  simp only [List.setIfInBounds_toArray, List.set_cons_zero, List.set_cons_succ]
  refine' take_T (i := 8) (d := 34) (v := _) rfl rfl (by kernel_rfl) (by kernel_rfl) (by kernel_rfl) (by kernel_rfl) (by kernel_rfl) (fun _ _ _ h => h) (Or.inl ⟨by rfl, ?h8⟩) (HS3.out) ?_
  case h8 =>
    intro w hSw
    obtain ⟨t0, t1⟩ := hSw
    go_simp
    with_reducible rfl
  simp only [List.setIfInBounds_toArray, List.set_cons_zero, List.set_cons_succ]
  refine' take_T (i := 9) (d := 35) (v := _) rfl rfl (by kernel_rfl) (by kernel_rfl) (by kernel_rfl) (by kernel_rfl) (by kernel_rfl) (fun _ _ _ h => h) (Or.inl ⟨by rfl, ?h9⟩) (HS3.out) ?_
  case h9 =>
    intro w hSw
    obtain ⟨t0, t1⟩ := hSw
    go_simp
    with_reducible rfl
  simp only [List.setIfInBounds_toArray, List.set_cons_zero, List.set_cons_succ]
  refine' take_T (i := 10) (d := 36) (v := _) rfl rfl (by kernel_rfl) (by kernel_rfl) (by kernel_rfl) (by kernel_rfl) (by kernel_rfl) (fun _ _ _ h => h) (Or.inl ⟨by rfl, ?h10⟩) (HS3.out) ?_
  case h10 =>
    intro w hSw
    obtain ⟨t0, t1⟩ := hSw
    go_simp
    with_reducible rfl
  simp only [List.setIfInBounds_toArray, List.set_cons_zero, List.set_cons_succ]
  refine' take_T (i := 11) (d := 37) (v := _) rfl rfl (by kernel_rfl) (by kernel_rfl) (by kernel_rfl) (by kernel_rfl) (by kernel_rfl) (fun _ _ _ h => h) (Or.inl ⟨by rfl, ?h11⟩) (HS3.out) ?_
  case h11 =>
    intro w hSw
    obtain ⟨t0, t1⟩ := hSw
    go_simp
    with_reducible rfl
  simp only [List.setIfInBounds_toArray, List.set_cons_zero, List.set_cons_succ]
  refine wpAnyT_ready (rs := [12]) (by kernel_rfl) (by simp) ?_
  refine AllReadyT.cons (o := _) rfl (fun KQ hKQ => ?_) AllReadyT.nil
  go_simp
  obtain ⟨gs, hgs⟩ : ∃ g, g = w3.heap.size := ⟨_, rfl⟩
  have H4 : Hid (LkU (w3.alloc (.cells #[.string p] 9)) q (s ++ [⟨p, who⟩]) s F a b c d fh1 fo fu fs V ∧ Moved w (w3.alloc (.cells #[.string p] 9)) F F ∧ (w3.alloc (.cells #[.string p] 9)).cell? ⟨gs, 0, none⟩ = some (.string p)) := by
    have hb := (Below.refl w3.heap.size w3).alloc (Nat.le_refl _) (.cells #[.string p] 9)
    exact ⟨H3.out.1.below hb, H3.out.2.trans (Moved.of_below F hb), by rw [hgs]; exact (Cb.made w3 [.string p] 9).cell 0⟩
  rw [← hgs]
  clear hgs H3 HS3
  generalize w3.alloc (.cells #[.string p] 9) = w4 at *
  have HS4 : Hid (SO17 w4 q b who vO) := (show SO17 w4 q b who vO by rw [HVO.out]; exact H4.out.1.sO HH.out.2.2.1)
  refine hKQ.out _ _ (fun _ => HS4.out) ?_
  clear hKQ KQ
  refine wpAnyT_ready (rs := [13]) (by kernel_rfl) (by simp) ?_
  refine AllReadyT.cons (o := _) rfl (fun KQ hKQ => ?_) AllReadyT.nil
  refine wp_str17 _ _ rfl 39 rfl vO (Lk.own s who) gs p w4 rfl rfl (by rw [HVO.out]; exact H4.out.1.old_row who) H4.out.2.2 (by have := Lk.own_le s who; have := HI.out.2.2.1; omega) ?_
  intro vN w5 hrow hgr hwh
  rw [HVO.out] at hgr hwh
  have HA : Hid (w5.ownsRow 0 9 1 vN (Lk.own s who ++ [p]).length (sc (Lk.own s who ++ [p])) ∧ w4.grownBy w5 (old17 s V who).ownBlock ∧ (vN.ownBlock = (old17 s V who).ownBlock ∨ vN.ownBlock = some w4.heap.size)) := ⟨hrow, hgr, hwh⟩
  have HS5 : Hid (SO17 w5 q b who vO ∧ Mq w5 2 b fo) := (show SO17 w5 q b who vO ∧ Mq w5 2 b fo by rw [HVO.out]; exact H4.out.1.sO_app HH.out.2.2.1 hgr)
  clear hrow hgr hwh HS4
  simp only [List.setIfInBounds_toArray, List.set_cons_zero, List.set_cons_succ]
  refine hKQ.out _ _ (fun _ => HS5.out.1) ?_
  clear hKQ KQ
  obtain ⟨fo1, ho1⟩ := Up.some_is fo (ikey who) (some vN)
  obtain ⟨w6, hrun, hm, ht⟩ := HS5.out.2.store keyedI Tryz.underlying157 HI.out.2.2.2.2.1 HI.out.2.2.2.2.2.1 HK.out.2 vN ho1
  obtain ⟨hl6, hm6⟩ := H4.out.1.push_o HA.out.2.1 HA.out.1 HA.out.2.2 ht hm ho1
  have H6 : Hid (LkU w6 q (s ++ [⟨p, who⟩]) (s ++ [⟨p, who⟩]) (fun k => F k ∨ vN.ownBlock = some k) a b c d fh1 fo1 fu fs (fun z => if z = who then vN else V z) ∧ Moved w w6 F (fun k => F k ∨ vN.ownBlock = some k)) := ⟨hl6, H4.out.2.1.trans hm6⟩
  clear hm ht ho1 hl6 hm6 HA HS5 H4
  refine wpAnyT_ready (rs := [14]) (by kernel_rfl) (by simp) ?_
  refine AllReadyT.cons (o := _) rfl (fun KQ hKQ => ?_) AllReadyT.nil
  go_simp
  clear hrun
  refine hKQ.out _ _ (fun h => absurd rfl h) ?_
  clear hKQ KQ
  refine wpAnyT_done (by kernel_rfl) ?_ _
  go_wp2_with fail
  refine (count_any17 H6.out.1 HI.out.1 HI.out.2.1 (by have := HI.out.2.2.1; omega) (by rw [List.length_append]; have := HI.out.2.2.1; simp only [List.length_cons, List.length_nil]; omega) (HH.out.2.1.moved17 H6.out.2 HLO.out) who HH.out.2.2.1 p HH.out.2.2.2.2 1 (Step17.come s p who)).mono ?_
  rintro e w7 ⟨rfl, fu2, fs2, hl, h1, h2, h3⟩
  have H7 : Hid (LLk w7 q (s ++ [⟨p, who⟩]) (fun k => F k ∨ vN.ownBlock = some k) ∧ Moved w w7 F (fun k => F k ∨ vN.ownBlock = some k)) := ⟨⟨a, b, c, d, fh1, fo1, fu2, fs2, _, hl, h1, h2⟩, H6.out.2.trans h3⟩
  clear hl h1 h2 h3 H6
  go_wp2
  go_end0
  exact ⟨rfl, _, H7.out.1, H7.out.2⟩
set_option maxRecDepth 20000 in
set_option maxHeartbeats 2000000 in
theorem take_old17 (h : LkU w q s s F a b c d fh fo fu fs V) (hu : IsU s fu) (hs : IsS s fs) (who x : Int) (p : ByteArray) (hp : p.size ≤ maxLen) (hn : Lk.held s p = some x) :
    Calls Tryz.prog 102 #[dptr q, .int .i64 who, .string p] w (TakP17 w q s F) := by
  have HH : Hid (LkU w q s s F a b c d fh fo fu fs V ∧ IsU s fu ∧ IsS s fs ∧ fh (pkey p) = some (.int .i64 x) ∧ keyOf Tryz.prog 9 (.string p) = some (pkey p)) := ⟨h, hu, hs, by rw [h.ih.at_, hn]; rfl, key_p hp⟩
  have t0 := h.c0
  clear h hu hs hp hn
  go_enter Tryz.func102, Tryz.ntmps102
  go_wp2_with (at_lookup; refine wpList_lookMok rfl _ _ 156 rfl 9 2 keyedP Tryz.underlying156 (.int .i64 0) (zeroI17 _) rfl HH.out.1.mh (.string p) (pkey p) rfl HH.out.2.2.2.2 (.int .i64 x) true (by rw [HH.out.2.2.2.1]; rfl) (by rw [HH.out.2.2.2.1]; rfl) ?_)
  go_wp2
  refine bodyPost_ret (results_none rfl _ _ _) rfl ?_
  exact ⟨rfl, F, ⟨a, b, c, d, fh, fo, fu, fs, V, HH.out.1, HH.out.2.1, HH.out.2.2.1⟩, Moved.refl _ _⟩
end
theorem take_one17 {w : World} {q : Nat} {s : Lk.St} {F : Nat → Prop} (h : LLk w q s F) (hl : s.length ≤ 1999999) (hlo : ∀ k, F k → 6 ≤ k) (hS : Pa.Std w) (who : Int) (hw : I64 who) (p : ByteArray) (hg : Lk.good p = true) :
    Calls Tryz.prog 102 #[dptr q, .int .i64 who, .string p] w (TakP17 w q (Lk.add who s p) F) := by
  obtain ⟨a, b, c, d, fh, fo, fu, fs, V, h, hu, hs⟩ := h
  unfold Lk.add
  cases hn : Lk.held s p with
  | none => exact take_new17 h hu hs hl hlo hS who hw p hg hn
  | some x => exact take_old17 h hu hs who x p (by have h1 := (Pl.good_parts (show Pl.goodB p.data.toList = true from hg)).2.2; rw [Pa.sz_list] at h1; unfold maxLen; omega) hn
end Go.Proofs.YtboejbjobjhajaaGreatDoor
namespace Go.Proofs.YtboejbjobjhajaaGreatDoor.Lk
theorem Fine.lesses {m : Nat} : ∀ (ps : List ByteArray) {s : St}, Fine m s → Fine m (lesses s ps)
  | [], _, h => h
  | p :: ps, _, h => Fine.lesses ps (h.less p)
theorem held_lesses : ∀ (ps : List ByteArray) (s : St) (p : ByteArray), p ∉ ps → held (lesses s ps) p = held s p
  | [], _, _, _ => rfl
  | q :: ps, s, p, h => by
    have e : lesses s (q :: ps) = lesses (less s q) ps := rfl
    rw [e, held_lesses ps (less s q) p (fun h2 => h (List.mem_cons_of_mem _ h2)), held_less, if_neg (fun h2 => h (by rw [h2]; simp))]
theorem own_held {m : Nat} {s : St} (h : Fine m s) {who : Int} {p : ByteArray} (hp : p ∈ own s who) : held s p = some who := by
  obtain ⟨x, hx, rfl, rfl⟩ := mem_own.1 hp
  exact held_mem h hx
theorem own_next {m : Nat} {s : St} (h : Fine m s) {who : Int} {k : Nat} {p : ByteArray} (hp : (own s who)[k]? = some p) : held (lesses s ((own s who).take k)) p = some who ∧ lesses s ((own s who).take (k + 1)) = less (lesses s ((own s who).take k)) p := by
  have hlt := (List.getElem?_eq_some_iff.1 hp).1
  refine ⟨?_, ?_⟩
  · rw [held_lesses, own_held h (List.mem_of_getElem? hp)]
    intro hm
    obtain ⟨j, hj⟩ := List.getElem?_of_mem hm
    have hjk : j < k := by
      have := (List.getElem?_eq_some_iff.1 hj).1
      rw [List.length_take] at this
      omega
    rw [List.getElem?_take, if_pos hjk] at hj
    have := (List.getElem?_inj hlt (own_nodup h who)).1 (hp.trans hj.symm)
    omega
  · rw [List.take_add_one, hp]
    exact lesses_snoc _ _ _
end Go.Proofs.YtboejbjobjhajaaGreatDoor.Lk
namespace Go.Proofs.YtboejbjobjhajaaGreatDoor
open Go.RowKit
structure Fr17 (w0 w : World) (q : Nat) (s s2 : Lk.St) (F : Nat → Prop) (a b c d : Nat) (fh fo fu fs : Lit → Option Value) (V : Int → Value) : Prop where
  lk : LkU w q s2 s F a b c d fh fo fu fs V
  u : IsU s2 fu
  s : IsS s2 fs
  mv : Moved w0 w F F
set_option maxRecDepth 20000 in
set_option maxHeartbeats 8000000 in
theorem free_any17 {w : World} {q m : Nat} {s : Lk.St} {F : Nat → Prop} (h : LLk w q s F) (hf : Lk.Fine m s) (hm : m ≤ 1000000) (hlo : ∀ k, F k → 6 ≤ k) (hS : Pa.Std w) (who : Int) (hw : I64 who) :
    Calls Tryz.prog 53 #[dptr q, .int .i64 who] w fun e w' => ∃ F', e = .returned (.int .i64 (Lk.free s who)) ∧ LLk w' q (Lk.rest s who) F' ∧ Moved w w' F F' := by
  obtain ⟨a, b, c, d, fh, fo, fu, fs, V, h, hu, hs⟩ := h
  obtain ⟨ps, hps⟩ : ∃ ps, ps = Lk.own s who := ⟨_, rfl⟩
  obtain ⟨L, hL⟩ : ∃ L, L = ps.length := ⟨_, rfl⟩
  have hLm : L ≤ 1000000 := by rw [hL, hps]; exact Nat.le_trans (Lk.own_le s who) (Nat.le_trans hf.len hm)
  have hrow := h.old_row who
  rw [← hps, ← hL] at hrow
  obtain ⟨ao, ca, hvO, _, hao⟩ := row_form hrow
  have HV : Hid ((fo (ikey who)).getD (.slice none 0 0) = .slice ao L ca ∧ old17 s V who = .slice ao L ca) := ⟨by rw [h.old_get who, hvO], hvO⟩
  have HH : Hid (Lk.Fine m s ∧ m ≤ 1000000 ∧ (∀ k, F k → 6 ≤ k) ∧ Pa.Std w ∧ I64 who ∧ keyOf Tryz.prog 2 (.int .i64 who) = some (ikey who)) := ⟨hf, hm, hlo, hS, hw, key_i hw⟩
  have HP : Hid (ps = Lk.own s who ∧ L = ps.length ∧ Lk.free s who = (L : Int)) := ⟨hps, hL, by rw [hL, hps]; exact (Lk.own_len s who).symm⟩
  have H0 : Hid (Fr17 w w q s s F a b c d fh fo fu fs V) := ⟨h, hu, hs, Moved.refl _ _⟩
  have t1 := h.c1
  clear h hu hs hf hm hlo hS hw hps hL hrow hvO
  go_enter Tryz.func53, Tryz.ntmps53
  go_wp2_with (at_lookup; refine wpList_lookM rfl _ _ 157 rfl 2 71 keyedI Tryz.underlying157 (.slice none 0 0) (zeroSs17 _) rfl H0.out.lk.mo (.int .i64 who) (ikey who) rfl HH.out.2.2.2.2.2 (.slice ao L ca) HV.out.1 ?_)
  clear t1
  go_loopw [16] (fun i wx => ∃ (k : Nat) (fh' fu' fs' : Lit → Option Value), k ≤ L ∧ i = .int .i64 (k : Int) ∧ Fr17 w wx q s (Lk.lesses s (ps.take k)) F a b c d fh' fo fu' fs' V) (fun i _ => L - (intOf i).toNat)
  case atStart => exact ⟨0, fh, fu, fs, Nat.zero_le _, rfl, H0.out⟩
  case round =>
    obtain ⟨k, fh1, fu1, fs1, hk, rfl, hfr⟩ := hrel
    have H1 : Hid (Fr17 w wr q s (Lk.lesses s (ps.take k)) F a b c d fh1 fo fu1 fs1 V) := hfr
    clear hfr H0
    by_cases hlt : k < L
    · have hlt' : (k : Int) < (L : Int) := by omega
      have hk0 : (0 : Int) ≤ (k : Int) := by omega
      have hwk : IntKind.wrap .i64 ((k : Int) + 1) = (k : Int) + 1 := by rw [IntKind.wrap_i64]; omega
      obtain ⟨p, hp⟩ : ∃ p, ps[k]? = some p := ⟨ps[k]'(by rw [← HP.out.2.1]; exact hlt), List.getElem?_eq_getElem _⟩
      obtain ⟨g, rfl⟩ := hao (by omega)
      have c9 : wr.cell? ⟨g, k, none⟩ = some (.string p) := by
        have hr := H1.out.lk.old_row who
        rw [HV.out.2, ← HP.out.1, ← HP.out.2.1] at hr
        rw [hr.cellAt k (by omega)]
        unfold sc
        rw [List.getElem?_map, hp]
        rfl
      have hnx := Lk.own_next HH.out.1 (who := who) (k := k) (p := p) (by rw [← HP.out.1]; exact hp)
      rw [← HP.out.1] at hnx
      obtain ⟨s1, hs1⟩ : ∃ s1, s1 = Lk.lesses s (ps.take k) := ⟨_, rfl⟩
      have hf1 : Lk.Fine m s1 := by rw [hs1]; exact HH.out.1.lesses _
      rw [← hs1] at H1 hnx
      have hpg : Lk.good p = true := Lk.held_good hf1 hnx.1
      have hpz : p.size ≤ maxLen := by
        have h1 := (Pl.good_parts (show Pl.goodB p.data.toList = true from hpg)).2.2
        rw [Pa.sz_list] at h1
        unfold maxLen
        omega
      have H2 : Hid (Lk.Fine m s1 ∧ Lk.held s1 p = some who ∧ Lk.lesses s (ps.take (k + 1)) = Lk.less s1 p ∧ p.size ≤ maxLen ∧ keyOf Tryz.prog 9 (.string p) = some (pkey p)) := ⟨hf1, hnx.1, hnx.2, hpz, key_p hpz⟩
      clear hs1 hf1 hnx hpg hpz hp
      obtain ⟨fh2, hh2⟩ := Up.some_is fh1 (pkey p) none
      have HU : Hid (Up fh1 (pkey p) none fh2 ∧ IsH (Lk.less s1 p) fh2) := ⟨hh2, H1.out.lk.ih.one (p := p) (by rw [Lk.held_less, if_pos rfl]; exact hh2) fun y hy => by rw [Lk.held_less, if_neg hy]⟩
      clear hh2
      have t0 := H1.out.lk.c0
      go_wp2_with (at_delete; refine wpList_dropM rfl _ _ 156 9 rfl 2 keyedP Tryz.underlying156 rfl H1.out.lk.mh (.string p) (pkey p) rfl H2.out.2.2.2.2 HU.out.1 ?_)
      intro w2 hm ht
      have H3 : Hid (LkU w2 q (Lk.less s1 p) s F a b c d fh2 fo fu1 fs1 V ∧ IsU s1 fu1 ∧ IsS s1 fs1 ∧ Moved w w2 F F) := ⟨H1.out.lk.turn_h ht hm HU.out.2, H1.out.u, H1.out.s, H1.out.mv.trans (Moved.turned ht H1.out.lk.gm.1)⟩
      clear hm ht t0 c9 H1 HU
      go_wp2_with fail
      refine (count_any17 H3.out.1 H3.out.2.1 H3.out.2.2.1 (by have := H2.out.1.len; have := HH.out.2.1; omega) (by have := (H2.out.1.less p).len; have := HH.out.2.1; omega) (HH.out.2.2.2.1.moved17 H3.out.2.2.2 HH.out.2.2.1) who HH.out.2.2.2.2.1 p H2.out.2.2.2.1 (-1) (Step17.go H2.out.1 H2.out.2.1)).mono ?_
      rintro e w3 ⟨rfl, fu3, fs3, hl, h1, h2, h3⟩
      have H4 : Hid (Fr17 w w3 q s (Lk.less s1 p) F a b c d fh2 fo fu3 fs3 V) := ⟨hl, h1, h2, H3.out.2.2.2.trans h3⟩
      clear hl h1 h2 h3 H3
      go_wp2
      go_roundw
      case rel => exact ⟨k + 1, fh2, fu3, fs3, by omega, by go_num, by rw [H2.out.2.2.1]; exact H4.out⟩
      case measure => simp [intOf]; omega
    · have hlt' : ¬ (k : Int) < (L : Int) := by omega
      obtain rfl : k = L := by omega
      have hr : Lk.lesses s (ps.take k) = Lk.rest s who := by
        rw [HP.out.2.1, List.take_length, HP.out.1]
        exact Lk.lesses_own HH.out.1 who
      rw [hr] at H1
      obtain ⟨fo1, ho1⟩ := Up.some_is fo (ikey who) none
      have HU : Hid (Up fo (ikey who) none fo1 ∧ IsO (Lk.rest s who) V fo1 ∧ ∀ z, Lk.own (Lk.rest s who) z ≠ [] → Lk.own (Lk.rest s who) z = Lk.own s z) := by
        refine ⟨ho1, H1.out.lk.io.one (z := who) (by rw [Lk.own_rest, if_pos rfl, if_pos rfl]; exact ho1) fun y hy => ⟨by rw [Lk.own_rest, if_neg hy], rfl⟩, fun z hz => ?_⟩
        rw [Lk.own_rest] at hz ⊢
        by_cases e : z = who
        · rw [if_pos e] at hz
          exact absurd rfl hz
        · rw [if_neg e]
      clear hr ho1
      have t1 := H1.out.lk.c1
      go_wp2_with (at_delete; refine wpList_dropM rfl _ _ 157 2 rfl 71 keyedI Tryz.underlying157 rfl H1.out.lk.mo (.int .i64 who) (ikey who) rfl HH.out.2.2.2.2.2 HU.out.1 ?_)
      intro w2 hm ht
      have H3 : Hid (LkU w2 q (Lk.rest s who) (Lk.rest s who) F a b c d fh1 fo1 fu1 fs1 V ∧ IsU (Lk.rest s who) fu1 ∧ IsS (Lk.rest s who) fs1 ∧ Moved w w2 F F) := ⟨H1.out.lk.turn_o ht hm HU.out.2.1 HU.out.2.2, H1.out.u, H1.out.s, H1.out.mv.trans (Moved.turned ht H1.out.lk.gm.2.1)⟩
      clear hm ht t1 H1 HU
      go_wp2
      go_ret
      rw [HP.out.2.2]
      exact ⟨F, rfl, ⟨a, b, c, d, fh1, fo1, fu1, fs1, V, H3.out.1, H3.out.2.1, H3.out.2.2.1⟩, H3.out.2.2.2⟩
end Go.Proofs.YtboejbjobjhajaaGreatDoor
namespace Go.Proofs.YtboejbjobjhajaaGreatDoor
open Go.RowKit

def InF17 (ps : List ByteArray) (f : ByteArray → Bool) (r : Int) : Prop := (r = -1 ∧ ps.find? f = none) ∨ ∃ k p, r = ((k : Nat) : Int) ∧ ps[k]? = some p ∧ ps.find? f = some p
theorem find_at17 {ps : List ByteArray} {f : ByteArray → Bool} {k : Nat} {p : ByteArray} (h : ps[k]? = some p) (hf : f p = true) (hy : ∀ y ∈ ps.take k, f y = false) : ps.find? f = some p := by
  have hlt := (List.getElem?_eq_some_iff.1 h).1
  have e : ps = ps.take k ++ p :: ps.drop (k + 1) := by
    have h2 := (List.getElem?_eq_some_iff.1 h).2
    rw [← h2, ← List.drop_eq_getElem_cons hlt, List.take_append_drop]
  rw [e, List.find?_append, List.find?_eq_none.2 (fun y hm => by rw [hy y hm]; simp), List.find?_cons, hf]
  rfl
section
variable {w : World} {q m : Nat} {s : Lk.St} {F : Nat → Prop}
theorem closure_any17 (h : LLk w q s F) (hf : Lk.Fine m s) (hS : Pa.Std w) (who : Int) (hw : I64 who) (p : ByteArray) (hp : p.size ≤ maxLen) (b1 b2 : Nat) (h1 : w.cell? ⟨b1, 0, none⟩ = some (dptr q)) (h2 : w.cell? ⟨b2, 0, none⟩ = some (.int .i64 who)) :
    Calls Tryz.prog 100 #[.string p, .pointer (some ⟨b1, 0, none⟩), .pointer (some ⟨b2, 0, none⟩)] w fun e w' => e = .returned (.bool (Lk.blocks s who p)) ∧ Below w.heap.size w w' := by
  obtain ⟨a, b, c, d, fh, fo, fu, fs, V, h, hu, hs⟩ := h
  have HH : Hid (LkU w q s s F a b c d fh fo fu fs V ∧ IsU s fu ∧ IsS s fs ∧ Lk.Fine m s ∧ Pa.Std w ∧ I64 who ∧ p.size ≤ maxLen) := ⟨h, hu, hs, hf, hS, hw, hp⟩
  clear h hu hs hf hS hw hp
  go_enter Tryz.func100, Tryz.ntmps100
  go_wp2_with fail
  refine (blocks_any17 HH.out.1 HH.out.2.1 HH.out.2.2.1 HH.out.2.2.2.1 HH.out.2.2.2.2.1 who HH.out.2.2.2.2.2.1 p HH.out.2.2.2.2.2.2).mono ?_
  rintro e w2 ⟨rfl, hb⟩
  have HB : Hid (Below w.heap.size w w2) := hb
  clear hb
  go_wp2
  go_ret
  exact ⟨rfl, HB.out⟩
end
set_option maxRecDepth 20000 in
set_option maxHeartbeats 4000000 in
theorem index_none17 (v : Value) (ps : List ByteArray) (f : ByteArray → Bool) (w : World) (hv : Ss w v ps) (hl : ps.length ≤ 1000)
    (hc : ∀ x ∈ ps, ∀ w', Below w.heap.size w w' → Calls Tryz.prog 99 #[.string x] w' fun e w2 => e = .returned (.bool (f x)) ∧ Below w'.heap.size w' w2) :
    Calls Tryz.prog 98 #[v, (Value.func (.func 99) #[] #[])] w fun e w' => ∃ r, e = .returned (.int .i64 r) ∧ InF17 ps f r ∧ Below w.heap.size w w' := by
  obtain ⟨av, N, c, rfl, hN, hcs⟩ := hv
  have H0 : Hid (N = ps.length ∧ (∀ (j : Nat) x, ps[j]? = some x → ∃ g o, av = some ⟨g, o, none⟩ ∧ w.cell? ⟨g, o + j, none⟩ = some (.string x)) ∧ ∀ x ∈ ps, ∀ w', Below w.heap.size w w' → Calls Tryz.prog 99 #[.string x] w' fun e w2 => e = .returned (.bool (f x)) ∧ Below w'.heap.size w' w2) := ⟨hN, hcs, hc⟩
  have hNm : N ≤ 1000 := by omega
  clear hN hcs hc hl
  go_enter Tryz.func98, Tryz.ntmps98
  go_wp2
  go_loopw [8] (fun i wx => ∃ k : Nat, k ≤ N ∧ i = .int .i64 (k : Int) ∧ Below w.heap.size w wx ∧ ∀ y ∈ ps.take k, f y = false) (fun i _ => N - (intOf i).toNat)
  case atStart => exact ⟨0, Nat.zero_le _, rfl, Below.refl _ _, fun y hy => by simp at hy⟩
  case round =>
    obtain ⟨k, hk, rfl, hb, hy⟩ := hrel
    have HW : Hid (Below w.heap.size w wr ∧ ∀ y ∈ ps.take k, f y = false) := ⟨hb, hy⟩
    clear hb hy
    by_cases hlt : k < N
    · have hlt' : (k : Int) < (N : Int) := by omega
      have hk0 : (0 : Int) ≤ (k : Int) := by omega
      have hwk : IntKind.wrap .i64 ((k : Int) + 1) = (k : Int) + 1 := by rw [IntKind.wrap_i64]; omega
      obtain ⟨x, hx⟩ : ∃ x, ps[k]? = some x := ⟨ps[k]'(by rw [← H0.out.1]; exact hlt), List.getElem?_eq_getElem _⟩
      have HX : Hid (ps[k]? = some x) := hx
      obtain ⟨g, o, rfl, c0⟩ := H0.out.2.1 k x hx
      have c1 : wr.cell? ⟨g, o + k, none⟩ = some (.string x) := Below.kept HW.out.1 c0
      clear hx c0
      go_wp2_with fail
      refine (H0.out.2.2 x (List.mem_of_getElem? HX.out) wr HW.out.1).mono ?_
      rintro e w2 ⟨rfl, hb2⟩
      have H2 : Hid (Below w.heap.size w w2) := HW.out.1.trans (hb2.mono HW.out.1.size)
      clear hb2 c1
      cases hs : f x with
      | true =>
        have HR : Hid (InF17 ps f (k : Int)) := Or.inr ⟨k, x, rfl, HX.out, find_at17 HX.out hs HW.out.2⟩
        clear hs
        go_wp2
        go_ret
        exact ⟨_, rfl, HR.out, H2.out⟩
      | false =>
        have HR : Hid (∀ y ∈ ps.take (k + 1), f y = false) := fun y hy => by
          rw [List.take_add_one, HX.out] at hy
          rcases List.mem_append.1 hy with hy | hy
          · exact HW.out.2 y hy
          · simp at hy
            rw [hy]
            exact hs
        clear hs
        go_wp2
        go_roundw
        case rel => exact ⟨k + 1, by omega, by go_num, H2.out, HR.out⟩
        case measure => simp [intOf]; omega
    · have hlt' : ¬ (k : Int) < (N : Int) := by omega
      have HR : Hid (InF17 ps f (-1)) := Or.inl ⟨rfl, List.find?_eq_none.2 fun y hy => by rw [HW.out.2 y (by rw [List.take_of_length_le (by rw [← H0.out.1]; omega)]; exact hy)]; simp⟩
      go_wp2
      go_ret
      exact ⟨_, rfl, HR.out, HW.out.1⟩
set_option maxRecDepth 20000 in
set_option maxHeartbeats 4000000 in
theorem index_blk17 (v : Value) (ps : List ByteArray) (f : ByteArray → Bool) (w : World) (hv : Ss w v ps) (hl : ps.length ≤ 1000) (b1 b2 : Nat)
    (hc : ∀ x ∈ ps, ∀ w', Below w.heap.size w w' → Calls Tryz.prog 100 #[.string x, .pointer (some ⟨b1, 0, none⟩), .pointer (some ⟨b2, 0, none⟩)] w' fun e w2 => e = .returned (.bool (f x)) ∧ Below w'.heap.size w' w2) :
    Calls Tryz.prog 98 #[v, (Value.func (.func 100) #[] #[.pointer (some ⟨b1, 0, none⟩), .pointer (some ⟨b2, 0, none⟩)])] w fun e w' => ∃ r, e = .returned (.int .i64 r) ∧ InF17 ps f r ∧ Below w.heap.size w w' := by
  obtain ⟨av, N, c, rfl, hN, hcs⟩ := hv
  have H0 : Hid (N = ps.length ∧ (∀ (j : Nat) x, ps[j]? = some x → ∃ g o, av = some ⟨g, o, none⟩ ∧ w.cell? ⟨g, o + j, none⟩ = some (.string x)) ∧ ∀ x ∈ ps, ∀ w', Below w.heap.size w w' → Calls Tryz.prog 100 #[.string x, .pointer (some ⟨b1, 0, none⟩), .pointer (some ⟨b2, 0, none⟩)] w' fun e w2 => e = .returned (.bool (f x)) ∧ Below w'.heap.size w' w2) := ⟨hN, hcs, hc⟩
  have hNm : N ≤ 1000 := by omega
  clear hN hcs hc hl
  go_enter Tryz.func98, Tryz.ntmps98
  go_wp2
  go_loopw [8] (fun i wx => ∃ k : Nat, k ≤ N ∧ i = .int .i64 (k : Int) ∧ Below w.heap.size w wx ∧ ∀ y ∈ ps.take k, f y = false) (fun i _ => N - (intOf i).toNat)
  case atStart => exact ⟨0, Nat.zero_le _, rfl, Below.refl _ _, fun y hy => by simp at hy⟩
  case round =>
    obtain ⟨k, hk, rfl, hb, hy⟩ := hrel
    have HW : Hid (Below w.heap.size w wr ∧ ∀ y ∈ ps.take k, f y = false) := ⟨hb, hy⟩
    clear hb hy
    by_cases hlt : k < N
    · have hlt' : (k : Int) < (N : Int) := by omega
      have hk0 : (0 : Int) ≤ (k : Int) := by omega
      have hwk : IntKind.wrap .i64 ((k : Int) + 1) = (k : Int) + 1 := by rw [IntKind.wrap_i64]; omega
      obtain ⟨x, hx⟩ : ∃ x, ps[k]? = some x := ⟨ps[k]'(by rw [← H0.out.1]; exact hlt), List.getElem?_eq_getElem _⟩
      have HX : Hid (ps[k]? = some x) := hx
      obtain ⟨g, o, rfl, c0⟩ := H0.out.2.1 k x hx
      have c1 : wr.cell? ⟨g, o + k, none⟩ = some (.string x) := Below.kept HW.out.1 c0
      clear hx c0
      go_wp2_with fail
      refine (H0.out.2.2 x (List.mem_of_getElem? HX.out) wr HW.out.1).mono ?_
      rintro e w2 ⟨rfl, hb2⟩
      have H2 : Hid (Below w.heap.size w w2) := HW.out.1.trans (hb2.mono HW.out.1.size)
      clear hb2 c1
      cases hs : f x with
      | true =>
        have HR : Hid (InF17 ps f (k : Int)) := Or.inr ⟨k, x, rfl, HX.out, find_at17 HX.out hs HW.out.2⟩
        clear hs
        go_wp2
        go_ret
        exact ⟨_, rfl, HR.out, H2.out⟩
      | false =>
        have HR : Hid (∀ y ∈ ps.take (k + 1), f y = false) := fun y hy => by
          rw [List.take_add_one, HX.out] at hy
          rcases List.mem_append.1 hy with hy | hy
          · exact HW.out.2 y hy
          · simp at hy
            rw [hy]
            exact hs
        clear hs
        go_wp2
        go_roundw
        case rel => exact ⟨k + 1, by omega, by go_num, H2.out, HR.out⟩
        case measure => simp [intOf]; omega
    · have hlt' : ¬ (k : Int) < (N : Int) := by omega
      have HR : Hid (InF17 ps f (-1)) := Or.inl ⟨rfl, List.find?_eq_none.2 fun y hy => by rw [HW.out.2 y (by rw [List.take_of_length_le (by rw [← H0.out.1]; omega)]; exact hy)]; simp⟩
      go_wp2
      go_ret
      exact ⟨_, rfl, HR.out, HW.out.1⟩
theorem Ss.moved17 {w w' : World} {F F' : Nat → Prop} {v : Value} {ps : List ByteArray} (h : Ss w v ps) (hm : Moved w w' F F') (ha : ∀ k, v.ownBlock = some k → ps ≠ [] → ¬ F k) : Ss w' v ps := by
  obtain ⟨av, k, c, rfl, hk, hc⟩ := h
  refine ⟨av, k, c, rfl, hk, fun j x hx => ?_⟩
  obtain ⟨g, o, rfl, hcell⟩ := hc j x hx
  refine ⟨g, o, rfl, ?_⟩
  have hlt := World.block_lt_of_cell? w _ hcell
  exact (World.cell?_of_block (hm.block g hlt (ha g rfl (fun e => by rw [e] at hx; simp at hx)))).trans hcell
structure Tk17 (w0 w : World) (q : Nat) (s : Lk.St) (F F' : Nat → Prop) (b1 b2 : Nat) (who : Int) (v : Value) (ps : List ByteArray) : Prop where
  lk : LLk w q s F'
  mv : Moved w0 w F F'
  lo : ∀ k, F' k → 6 ≤ k
  std : Pa.Std w
  c1 : w.cell? ⟨b1, 0, none⟩ = some (dptr q)
  c2 : w.cell? ⟨b2, 0, none⟩ = some (.int .i64 who)
  n1 : ¬ F' b1
  n2 : ¬ F' b2
  ss : Ss w v ps
  off : ∀ k, v.ownBlock = some k → ps ≠ [] → ¬ F' k
theorem Ss.lt17 {w : World} {v : Value} {ps : List ByteArray} (h : Ss w v ps) {k : Nat} (hk : v.ownBlock = some k) (hne : ps ≠ []) : k < w.heap.size := by
  obtain ⟨av, n, c, rfl, hn, hc⟩ := h
  obtain ⟨x, hx⟩ : ∃ x, ps[0]? = some x := ⟨ps[0]'(List.length_pos_iff.2 hne), List.getElem?_eq_getElem _⟩
  obtain ⟨g, o, rfl, hcell⟩ := hc 0 x hx
  simp only [Value.ownBlock, Option.some.injEq] at hk
  subst hk
  exact World.block_lt_of_cell? w _ hcell
theorem Tk17.below {w0 w w' : World} {q b1 b2 : Nat} {s : Lk.St} {F F' : Nat → Prop} {who : Int} {v : Value} {ps : List ByteArray} (h : Tk17 w0 w q s F F' b1 b2 who v ps) (hlt : ∀ k, F' k → k < w.heap.size) (hb : Below w.heap.size w w') : Tk17 w0 w' q s F F' b1 b2 who v ps :=
  ⟨llk_keep h.lk fun k hk => hb.block k (hlt k hk), h.mv.trans (Moved.of_below F' hb), h.lo, h.std.below hb, Below.kept hb h.c1, Below.kept hb h.c2, h.n1, h.n2, h.ss.below hb, h.off⟩
theorem llk_lt {w : World} {q k : Nat} {s : Lk.St} {F : Nat → Prop} (h : LLk w q s F) (hk : F k) : k < w.heap.size := by
  obtain ⟨a, b, c, d, fh, fo, fu, fs, V, h, _⟩ := h
  exact h.flt k hk
theorem Tk17.moved {w0 w w' : World} {q b1 b2 : Nat} {s s2 : Lk.St} {F F' F2 : Nat → Prop} {who : Int} {v : Value} {ps : List ByteArray} (h : Tk17 w0 w q s F F' b1 b2 who v ps) (hl : LLk w' q s2 F2) (hm : Moved w w' F' F2) : Tk17 w0 w' q s2 F F2 b1 b2 who v ps := by
  have l1 := World.block_lt_of_cell? w _ h.c1
  have l2 := World.block_lt_of_cell? w _ h.c2
  simp only [] at l1 l2
  have hsz := h.std.size
  refine ⟨hl, h.mv.trans hm, fun k hk => ?_, h.std.moved17 hm h.lo, (World.cell?_of_block (hm.block b1 l1 h.n1)).trans h.c1, (World.cell?_of_block (hm.block b2 l2 h.n2)).trans h.c2, fun e => ?_, fun e => ?_, h.ss.moved17 hm h.off, fun k hk hne e => ?_⟩
  · rcases hm.sub k hk with h1 | h1
    · exact h.lo k h1
    · omega
  · rcases hm.sub b1 e with h1 | h1
    · exact h.n1 h1
    · omega
  · rcases hm.sub b2 e with h1 | h1
    · exact h.n2 h1
    · omega
  · rcases hm.sub k e with h1 | h1
    · exact h.off k hk hne h1
    · have := h.ss.lt17 hk hne
      omega
set_option maxRecDepth 20000 in
set_option maxHeartbeats 8000000 in
theorem take_any17 {w : World} {q m : Nat} {s : Lk.St} {F : Nat → Prop} (h : LLk w q s F) (hf : Lk.Fine m s) (hm : m ≤ 1000000) (hlo : ∀ k, F k → 6 ≤ k) (hS : Pa.Std w) (who : Int) (hw : I64 who) (v : Value) (ps : List ByteArray) (hv : Ss w v ps) (hl : ps.length ≤ 1000) (hp : ∀ p ∈ ps, p.size ≤ maxLen) (hoff : ∀ k, v.ownBlock = some k → ps ≠ [] → ¬ F k) :
    Calls Tryz.prog 49 #[dptr q, .int .i64 who, v] w fun e w' => ∃ F', e = .returned (.tuple #[.string (Lk.take s who ps).1, .bool (Lk.take s who ps).2.1]) ∧ LLk w' q (Lk.take s who ps).2.2 F' ∧ Moved w w' F F' := by
  obtain ⟨R, hR⟩ : ∃ R, R = Lk.take s who ps := ⟨_, rfl⟩
  rw [← hR]
  have HR : Hid (R = Lk.take s who ps) := hR
  have HH : Hid (LLk w q s F ∧ Lk.Fine m s ∧ m ≤ 1000000 ∧ (∀ k, F k → 6 ≤ k) ∧ Pa.Std w ∧ I64 who ∧ Ss w v ps ∧ ps.length ≤ 1000 ∧ (∀ p ∈ ps, p.size ≤ maxLen) ∧ (∀ k, v.ownBlock = some k → ps ≠ [] → ¬ F k)) := ⟨h, hf, hm, hlo, hS, hw, hv, hl, hp, hoff⟩
  obtain ⟨av, N, c, rfl, hN, hcs⟩ := hv
  have HN : Hid (N = ps.length) := hN
  have hN10 : N ≤ 1000 := by omega
  clear h hf hm hlo hS hw hl hp hoff hN hcs hR
  go_enter Tryz.func49, Tryz.ntmps49
  go_upto_region 1 with fail
  obtain ⟨b1, hb1⟩ : ∃ b, b = w.heap.size := ⟨_, rfl⟩
  rw [← hb1]
  obtain ⟨b2, hb2⟩ : ∃ b, b = b1 + 1 := ⟨_, rfl⟩
  rw [← hb2]
  have H1 : Hid (Tk17 w ((w.alloc (.cells #[dptr q] 84)).alloc (.cells #[.int .i64 who] 2)) q s F F b1 b2 who (.slice av N c) ps) := by
    have hba := (Below.refl w.heap.size w).alloc (Nat.le_refl _) (.cells #[dptr q] 84)
    obtain ⟨wa, hwa⟩ : ∃ z, z = w.alloc (.cells #[dptr q] 84) := ⟨_, rfl⟩
    have hs : wa.heap.size = b2 := by rw [hwa, hb2, hb1]; simp
    have ca : Cb wa b1 [dptr q] 84 := by rw [hwa, hb1]; exact Cb.made w _ _
    rw [← hwa] at hba ⊢
    have hbb := hba.alloc hba.size (.cells #[.int .i64 who] 2)
    have hbc := (Below.refl wa.heap.size wa).alloc (Nat.le_refl _) (.cells #[.int .i64 who] 2)
    have cb : Cb (wa.alloc (.cells #[.int .i64 who] 2)) b2 [.int .i64 who] 2 := by rw [← hs]; exact Cb.made wa _ _
    have hlt : ∀ k, F k → k < w.heap.size := fun k hk => llk_lt HH.out.1 hk
    exact ⟨llk_keep HH.out.1 fun k hk => hbb.block k (hlt k hk), Moved.of_below F hbb, HH.out.2.2.2.1, HH.out.2.2.2.2.1.below hbb, (ca.below hbc).cell 0, cb.cell 0, fun e => by have := hlt b1 e; omega, fun e => by have := hlt b2 e; omega, HH.out.2.2.2.2.2.2.1.below hbb, HH.out.2.2.2.2.2.2.2.2.2⟩
  clear hb1 hb2
  generalize (w.alloc (.cells #[dptr q] 84)).alloc (.cells #[.int .i64 who] 2) = w1 at *
  go_wp2_with fail
  refine (index_none17 _ ps (fun p => !Lk.good p) w1 H1.out.ss (by have := HH.out.2.2.2.2.2.2.2.1; omega) (fun x hx w' hb => isNone_any17 x w' (H1.out.std.below hb) (HH.out.2.2.2.2.2.2.2.2.1 x hx))).mono ?_
  rintro e w2 ⟨r, rfl, hr, hb⟩
  have H2 : Hid (Tk17 w w2 q s F F b1 b2 who (.slice av N c) ps) := H1.out.below (fun k hk => llk_lt H1.out.lk hk) hb
  clear hb H1
  rcases hr with ⟨rfl, hfind⟩ | ⟨k, p, rfl, hk, hfind⟩
  · have HG : Hid (ps.find? (fun p => !Lk.good p) = none) := hfind
    clear hfind
    go_wp2_with fail
    refine (index_blk17 _ ps (Lk.blocks s who) w2 H2.out.ss (by have := HH.out.2.2.2.2.2.2.2.1; omega) b1 b2 (fun x hx w' hb => closure_any17 (llk_keep H2.out.lk fun k hk => hb.block k (llk_lt H2.out.lk hk)) HH.out.2.1 (H2.out.std.below hb) who HH.out.2.2.2.2.2.1 x (HH.out.2.2.2.2.2.2.2.2.1 x hx) b1 b2 (Below.kept hb H2.out.c1) (Below.kept hb H2.out.c2))).mono ?_
    rintro e w3 ⟨r, rfl, hr, hb⟩
    have H3 : Hid (Tk17 w w3 q s F F b1 b2 who (.slice av N c) ps) := H2.out.below (fun k hk => llk_lt H2.out.lk hk) hb
    clear hb H2
    rcases hr with ⟨rfl, hfind⟩ | ⟨k, p, rfl, hk, hfind⟩
    · have hfa : Lk.faulty s who ps = none := by unfold Lk.faulty; rw [HG.out]; exact hfind
      have HT : Hid (R = (⟨#[]⟩, true, Lk.adds who s ps) ∧ (∀ p ∈ ps, Lk.good p = true) ∧ ∀ p ∈ ps, Lk.blocks s who p = false) := ⟨by rw [HR.out]; exact Lk.take_yes hfa, Lk.faulty_none hfa⟩
      clear hfa hfind HG
      go_wp2
      go_loopw [31] (fun i wx => ∃ (k : Nat) (F' : Nat → Prop), k ≤ N ∧ i = .int .i64 (k : Int) ∧ Tk17 w wx q (Lk.adds who s (ps.take k)) F F' b1 b2 who (.slice av N c) ps) (fun i _ => N - (intOf i).toNat)
      case atStart => exact ⟨0, F, Nat.zero_le _, rfl, H3.out⟩
      case round =>
        obtain ⟨k, F1, hk, rfl, htk⟩ := hrel
        have H4 : Hid (Tk17 w wr q (Lk.adds who s (ps.take k)) F F1 b1 b2 who (.slice av N c) ps) := htk
        clear htk H3
        by_cases hlt : k < N
        · have hlt' : (k : Int) < (N : Int) := by omega
          have hk0 : (0 : Int) ≤ (k : Int) := by omega
          have hwk : IntKind.wrap .i64 ((k : Int) + 1) = (k : Int) + 1 := by rw [IntKind.wrap_i64]; omega
          obtain ⟨p, hp⟩ : ∃ p, ps[k]? = some p := ⟨ps[k]'(by rw [← HN.out]; exact hlt), List.getElem?_eq_getElem _⟩
          obtain ⟨g, o, rfl, c0⟩ := (show ∃ g o, av = some ⟨g, o, none⟩ ∧ wr.cell? ⟨g, o + k, none⟩ = some (.string p) by
            obtain ⟨av2, k2, cc, e, _, hcs⟩ := H4.out.ss
            simp only [Value.slice.injEq] at e
            rw [e.1]
            exact hcs k p hp)
          have d1 := H4.out.c1
          have d2 := H4.out.c2
          obtain ⟨s1, hs1⟩ : ∃ s1, s1 = Lk.adds who s (ps.take k) := ⟨_, rfl⟩
          have hfin : (s1 : Lk.St).length ≤ 1999999 := by
            have h1 := (HH.out.2.1.adds HH.out.2.2.2.2.2.1 (ps := ps.take k) (fun x hx => HT.out.2.1 x (List.mem_of_mem_take hx)) (fun x hx => HT.out.2.2 x (List.mem_of_mem_take hx))).len
            rw [← hs1, List.length_take] at h1
            have := HH.out.2.2.1
            have := HH.out.2.2.2.2.2.2.2.1
            omega
          have HX : Hid ((s1 : Lk.St).length ≤ 1999999 ∧ Lk.good p = true ∧ Lk.adds who s (ps.take (k + 1)) = Lk.add who s1 p) := ⟨hfin, HT.out.2.1 p (List.mem_of_getElem? hp), by rw [List.take_add_one, hp, hs1]; unfold Lk.adds; rw [List.foldl_append]; rfl⟩
          rw [← hs1] at H4
          clear hs1 hfin hp
          go_wp2_with fail
          refine (take_one17 H4.out.lk HX.out.1 H4.out.lo H4.out.std who HH.out.2.2.2.2.2.1 p HX.out.2.1).mono ?_
          rintro e w5 ⟨rfl, F5, hl, hmv⟩
          have H5 : Hid (Tk17 w w5 q (Lk.adds who s (ps.take (k + 1))) F F5 b1 b2 who (.slice (some ⟨g, o, none⟩) N c) ps) := (show Tk17 w w5 q (Lk.adds who s (ps.take (k + 1))) F F5 b1 b2 who (.slice (some ⟨g, o, none⟩) N c) ps by rw [HX.out.2.2]; exact H4.out.moved hl hmv)
          clear hl hmv H4 c0 d1 d2
          go_wp2
          go_roundw
          case rel => exact ⟨k + 1, F5, by omega, by go_num, H5.out⟩
          case measure => simp [intOf]; omega
        · have hlt' : ¬ (k : Int) < (N : Int) := by omega
          obtain rfl : k = N := by omega
          have e : ps.take k = ps := by rw [HN.out, List.take_length]
          rw [e] at H4
          clear e
          go_wp2
          go_ret2
          rw [HT.out.1]
          exact ⟨rfl, F1, H4.out.lk, H4.out.mv⟩
    · obtain ⟨g, o, rfl, c0⟩ := (show ∃ g o, av = some ⟨g, o, none⟩ ∧ w3.cell? ⟨g, o + k, none⟩ = some (.string p) by
        obtain ⟨av2, k2, cc, e, _, hcs⟩ := H3.out.ss
        simp only [Value.slice.injEq] at e
        rw [e.1]
        exact hcs k p hk)
      have hkN : (k : Int) < (N : Int) := by have := (List.getElem?_eq_some_iff.1 hk).1; have := HN.out; omega
      have hk0 : (0 : Int) ≤ (k : Int) := by omega
      have HT : Hid (R = (p, false, s)) := (show R = (p, false, s) by rw [HR.out]; exact Lk.take_no (by unfold Lk.faulty; rw [HG.out]; exact hfind))
      clear hk hfind
      go_wp2
      go_ret2
      rw [HT.out]
      exact ⟨F, rfl, H3.out.lk, H3.out.mv⟩
  · obtain ⟨g, o, rfl, c0⟩ := (show ∃ g o, av = some ⟨g, o, none⟩ ∧ w2.cell? ⟨g, o + k, none⟩ = some (.string p) by
      obtain ⟨av2, k2, cc, e, _, hcs⟩ := H2.out.ss
      simp only [Value.slice.injEq] at e
      rw [e.1]
      exact hcs k p hk)
    have hkN : (k : Int) < (N : Int) := by have := (List.getElem?_eq_some_iff.1 hk).1; have := HN.out; omega
    have hk0 : (0 : Int) ≤ (k : Int) := by omega
    have HT : Hid (R = (p, false, s)) := (show R = (p, false, s) by rw [HR.out]; exact Lk.take_no (by unfold Lk.faulty; rw [hfind]))
    clear hk hfind
    go_wp2
    go_ret2
    rw [HT.out]
    exact ⟨F, rfl, H2.out.lk, H2.out.mv⟩
theorem specs_any17 : Specs17 LLk where
  lt h hk := llk_lt h hk
  keep h hk := llk_keep h hk
  new w := new_any17 w
  take _ _ _ _ who v ps _ h hf hm hlo hS hw hv hl hp hoff := take_any17 h hf hm hlo hS who hw v ps hv hl hp hoff
  free _ _ _ _ who _ h hf hm hlo hS hw := free_any17 h hf hm hlo hS who hw
  blocks q s F m who p w h hf hm hS hw hp := by
    obtain ⟨a, b, c, d, fh, fo, fu, fs, V, h, hu, hs⟩ := h
    exact blocks_any17 h hu hs hf hS who hw p hp
  len q s F m w h hf hm := by
    obtain ⟨a, b, c, d, fh, fo, fu, fs, V, h, _⟩ := h
    refine (len_any17 h hf).mono ?_
    rintro e w' ⟨rfl, hw⟩
    rw [hw]
    exact ⟨rfl, Below.refl _ _⟩
end Go.Proofs.YtboejbjobjhajaaGreatDoor
