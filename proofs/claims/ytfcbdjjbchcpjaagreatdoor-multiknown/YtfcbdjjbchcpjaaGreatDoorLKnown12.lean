/- MultiKnown's walk. -/
import Derived.Test.YtfcbdjjbchcpjaaGreatDoorKnown12
namespace Go.Proofs.YtfcbdjjbchcpjaaGreatDoor
open Go.RowKit Go.Sort

theorem sm_two {w : World} (a b : ByteArray) : Ss (w.alloc (.cells #[.string a, .string b] 9)) (.slice (some ⟨w.heap.size, 0, none⟩) 2 2) [a, b] := by
  refine ⟨_, _, _, rfl, rfl, fun j s hs => ⟨w.heap.size, 0, rfl, ?_⟩⟩
  rw [Nat.zero_add]
  exact cell?_alloc_at _ _ _ _ _ _ (by
    match j, hs with
    | 0, hs => simpa using hs
    | 1, hs => simpa using hs
    | j + 2, hs => simp at hs)
set_option maxRecDepth 20000 in
set_option maxHeartbeats 8000000 in
theorem known_any12 {LT : Rep11} (S : Specs11 LT) (D : SpecD12 LT) (P : SpecP12 LT) (W : World) (hS : Pa.Std W) :
    Calls Tryz.prog 9 #[] W fun e w' => e = .returned (.bool true) ∧ Below W.heap.size W w' := by
  have HS : Hid (Specs11 LT ∧ SpecD12 LT ∧ Pa.Std W ∧ SpecP12 LT) := ⟨S, D, hS, P⟩
  clear S D hS P
  go_enter Tryz.func9, Tryz.ntmps9
  go_wp2_with fail
  refine (awake_any12 HS.out.1 HS.out.2.1 W HS.out.2.2.1).mono ?_
  rintro e w0 ⟨rfl, hb⟩
  have B0 : Hid (Below W.heap.size W w0) := hb
  clear hb
  go_wp2_with fail
  refine (Mine11.made HS.out.1 10 (by decide) B0.out).mono ?_
  rintro e w1 ⟨q, F1, rfl, hM, hb⟩
  have M1 : Hid (Mine11 LT W w1 q ⟨10, []⟩ F1) := hM
  clear hM hb B0
  unfold dptr
  go_wp2_with fail
  obtain ⟨ra, hra⟩ : ∃ r, r = Rq.fail 0 1 (-1) 0 := ⟨_, rfl⟩
  have HRA : Hid (ra.err = 1 ∧ ra.at_ = -1) := by rw [hra]; exact ⟨rfl, rfl⟩
  refine (M1.out.many HS.out.1 HS.out.2.1 HS.out.2.2.1 1 1 (.slice none 0 0) [] 0 (Tq.few_new 10) (by decide) (om_nil w1 F1) (fun o ho => by cases ho) (by decide) ra false ⟨10, []⟩ (by rw [hra]; exact Tq.many_nil rfl)).mono ?_
  clear hra
  rintro e w2 ⟨F2, u2', rfl, hR, hM, hmv⟩
  obtain ⟨aa, ca, rfl⟩ := hR.form
  obtain ⟨La, hL⟩ : ∃ L, L = ra.xs.length := ⟨_, rfl⟩
  rw [← hL] at hR ⊢
  clear hL
  obtain ⟨qa, hqa⟩ : ∃ z, z = w2.heap.size := ⟨_, rfl⟩
  have M3 : Hid (Mine11 LT W (w2.alloc (.cells #[.int .i64 ra.num, .int .i64 ra.zxid, .int .i64 ra.err, .int .i64 ra.at_, .slice aa La ca] 73)) q ⟨10, []⟩ F2 ∧ Rb12 (w2.alloc (.cells #[.int .i64 ra.num, .int .i64 ra.zxid, .int .i64 ra.err, .int .i64 ra.at_, .slice aa La ca] 73)) F2 w1.heap.size qa ra (.slice aa La ca)) := ⟨hM.later HS.out.1 ((Below.refl _ w2).alloc (Nat.le_refl _) _), by rw [hqa]; exact Rb12.made (hM.flt HS.out.1) hR⟩
  clear hR hM hmv M1
  unfold rpv
  go_upto_region 5 with fail
  rw [← hqa]
  clear hqa
  generalize (w2.alloc (.cells #[.int .i64 ra.num, .int .i64 ra.zxid, .int .i64 ra.err, .int .i64 ra.at_, .slice aa La ca] 73)) = w3 at *
  go_wp2_with (refine make_ops17 rfl _ _ rfl w3 rfl rfl ?_)
  intro w4 hr4 hb4
  have M4 : Hid (Mine11 LT W w4 q ⟨10, []⟩ F2 ∧ Rb12 w4 F2 w1.heap.size qa ra (.slice aa La ca) ∧ Om12 w4 F2 (.slice (some ⟨w3.heap.size, 0, none⟩) 17 17) (List.replicate 17 Tq.z0)) := ⟨M3.out.1.later HS.out.1 hb4, M3.out.2.later hb4, ⟨Ol.own hr4, fun _ k hk e => by have := (hr4.lt k hk).1; have := HS.out.1.lt M3.out.1.ld e; omega⟩⟩
  obtain ⟨g3, hg3⟩ : ∃ g, g = w3.heap.size := ⟨_, rfl⟩
  rw [← hg3] at M4 ⊢
  clear hr4 hb4 M3 hg3
  go_wp2_with fail
  obtain ⟨rc, hrc⟩ : ∃ r, r = Rq.fail 0 2 (-1) 0 := ⟨_, rfl⟩
  have HRC : Hid (rc.err = 2) := by rw [hrc]; exact rfl
  refine (M4.out.1.many HS.out.1 HS.out.2.1 HS.out.2.2.1 1 1 (.slice (some ⟨g3, 0, none⟩) 17 17) (List.replicate 17 Tq.z0) 0 (Tq.few_new 10) (by decide) M4.out.2.2 fit_z0 (by rw [List.length_replicate]; decide) rc false ⟨10, []⟩ (by rw [hrc]; exact Tq.many_long (by rw [List.length_replicate]; decide))).mono ?_
  clear hrc
  rintro e w5 ⟨F5, u5', rfl, hR, hM, hmv⟩
  obtain ⟨ac, cc, rfl⟩ := hR.form
  obtain ⟨Lc, hL⟩ : ∃ L, L = rc.xs.length := ⟨_, rfl⟩
  rw [← hL] at hR ⊢
  clear hL
  obtain ⟨qc, hqc⟩ : ∃ z, z = w5.heap.size := ⟨_, rfl⟩
  have M6 : Hid (Mine11 LT W (w5.alloc (.cells #[.int .i64 rc.num, .int .i64 rc.zxid, .int .i64 rc.err, .int .i64 rc.at_, .slice ac Lc cc] 73)) q ⟨10, []⟩ F5 ∧ Rb12 (w5.alloc (.cells #[.int .i64 rc.num, .int .i64 rc.zxid, .int .i64 rc.err, .int .i64 rc.at_, .slice ac Lc cc] 73)) F5 w1.heap.size qa ra (.slice aa La ca) ∧ Rb12 (w5.alloc (.cells #[.int .i64 rc.num, .int .i64 rc.zxid, .int .i64 rc.err, .int .i64 rc.at_, .slice ac Lc cc] 73)) F5 w4.heap.size qc rc (.slice ac Lc cc)) := ⟨hM.later HS.out.1 ((Below.refl _ w5).alloc (Nat.le_refl _) _), (M4.out.2.1.moved hmv).later ((Below.refl _ w5).alloc (Nat.le_refl _) _), by rw [hqc]; exact Rb12.made (hM.flt HS.out.1) hR⟩
  clear hR hM hmv M4
  unfold rpv
  go_upto_region 6 with fail
  rw [← hqc]
  clear hqc
  generalize (w5.alloc (.cells #[.int .i64 rc.num, .int .i64 rc.zxid, .int .i64 rc.err, .int .i64 rc.at_, .slice ac Lc cc] 73)) = w6 at *
  go_wp2_with fail
  obtain ⟨re, hre⟩ : ∃ r, r = Rq.fail 4 1 (-1) 0 := ⟨_, rfl⟩
  have HRE : Hid (re.err = 1 ∧ re.num = 4 ∧ re.zxid = 0) := by rw [hre]; exact ⟨rfl, rfl, rfl⟩
  refine (M6.out.1.ask HS.out.1 HS.out.2.1 HS.out.2.2.1 1 4 9 (.slice none 0 0) [] 0 (Tq.few_new 10) (by decide) (om_nil w6 F5) (fun o ho => by cases ho) (Nat.zero_le _) re ⟨10, []⟩ (by rw [hre]; rfl)).mono ?_
  clear hre
  rintro e w7 ⟨F7, u7', rfl, hR, hM, hmv⟩
  obtain ⟨ae, ce, rfl⟩ := hR.form
  obtain ⟨Le, hL⟩ : ∃ L, L = re.xs.length := ⟨_, rfl⟩
  rw [← hL] at hR ⊢
  clear hL
  obtain ⟨qe, hqe⟩ : ∃ z, z = w7.heap.size := ⟨_, rfl⟩
  have M8 : Hid (Mine11 LT W (w7.alloc (.cells #[.int .i64 re.num, .int .i64 re.zxid, .int .i64 re.err, .int .i64 re.at_, .slice ae Le ce] 73)) q ⟨10, []⟩ F7 ∧ Rb12 (w7.alloc (.cells #[.int .i64 re.num, .int .i64 re.zxid, .int .i64 re.err, .int .i64 re.at_, .slice ae Le ce] 73)) F7 w1.heap.size qa ra (.slice aa La ca) ∧ Rb12 (w7.alloc (.cells #[.int .i64 re.num, .int .i64 re.zxid, .int .i64 re.err, .int .i64 re.at_, .slice ae Le ce] 73)) F7 w4.heap.size qc rc (.slice ac Lc cc) ∧ Rb12 (w7.alloc (.cells #[.int .i64 re.num, .int .i64 re.zxid, .int .i64 re.err, .int .i64 re.at_, .slice ae Le ce] 73)) F7 w6.heap.size qe re (.slice ae Le ce)) := ⟨hM.later HS.out.1 ((Below.refl _ w7).alloc (Nat.le_refl _) _), (M6.out.2.1.moved hmv).later ((Below.refl _ w7).alloc (Nat.le_refl _) _), (M6.out.2.2.moved hmv).later ((Below.refl _ w7).alloc (Nat.le_refl _) _), by rw [hqe]; exact Rb12.made (hM.flt HS.out.1) hR⟩
  clear hR hM hmv M6
  unfold rpv
  go_upto_region 7 with fail
  rw [← hqe]
  clear hqe
  generalize (w7.alloc (.cells #[.int .i64 re.num, .int .i64 re.zxid, .int .i64 re.err, .int .i64 re.at_, .slice ae Le ce] 73)) = w8 at *
  go_wp2_with fail
  refine (made_any12 Tq.pA 0 w8).mono ?_
  rintro e w9 ⟨rfl, hb⟩
  have M9 : Hid (Mine11 LT W w9 q ⟨10, []⟩ F7 ∧ Rb12 w9 F7 w1.heap.size qa ra (.slice aa La ca) ∧ Rb12 w9 F7 w4.heap.size qc rc (.slice ac Lc cc) ∧ Rb12 w9 F7 w6.heap.size qe re (.slice ae Le ce)) := ⟨M8.out.1.later HS.out.1 hb, M8.out.2.1.later hb, M8.out.2.2.1.later hb, M8.out.2.2.2.later hb⟩
  clear hb M8
  unfold ov Tq.mk
  simp only []
  go_wp2_with fail
  refine (made_any12 Tq.pAE 1 w9).mono ?_
  rintro e w10 ⟨rfl, hb⟩
  have M10 : Hid (Mine11 LT W w10 q ⟨10, []⟩ F7 ∧ Rb12 w10 F7 w1.heap.size qa ra (.slice aa La ca) ∧ Rb12 w10 F7 w4.heap.size qc rc (.slice ac Lc cc) ∧ Rb12 w10 F7 w6.heap.size qe re (.slice ae Le ce)) := ⟨M9.out.1.later HS.out.1 hb, M9.out.2.1.later hb, M9.out.2.2.1.later hb, M9.out.2.2.2.later hb⟩
  clear hb M9
  unfold ov Tq.mk
  simp only []
  go_wp2_with fail
  refine (made_any12 Tq.pFF 1 w10).mono ?_
  rintro e w11 ⟨rfl, hb⟩
  have M11 : Hid (Mine11 LT W w11 q ⟨10, []⟩ F7 ∧ Rb12 w11 F7 w1.heap.size qa ra (.slice aa La ca) ∧ Rb12 w11 F7 w4.heap.size qc rc (.slice ac Lc cc) ∧ Rb12 w11 F7 w6.heap.size qe re (.slice ae Le ce)) := ⟨M10.out.1.later HS.out.1 hb, M10.out.2.1.later hb, M10.out.2.2.1.later hb, M10.out.2.2.2.later hb⟩
  clear hb M10
  unfold ov Tq.mk
  simp only []
  obtain ⟨g11, hg11⟩ : ∃ z, z = w11.heap.size := ⟨_, rfl⟩
  have M12 : Hid (Mine11 LT W (w11.alloc (.cells #[.int .i64 1, .string Tq.pA, .string ⟨#[]⟩, .int .i64 0, .int .i64 0, .int .i64 1, .string Tq.pAE, .string ⟨#[]⟩, .int .i64 0, .int .i64 1, .int .i64 1, .string Tq.pFF, .string ⟨#[]⟩, .int .i64 0, .int .i64 1] 34)) q ⟨10, []⟩ F7 ∧ Rb12 (w11.alloc (.cells #[.int .i64 1, .string Tq.pA, .string ⟨#[]⟩, .int .i64 0, .int .i64 0, .int .i64 1, .string Tq.pAE, .string ⟨#[]⟩, .int .i64 0, .int .i64 1, .int .i64 1, .string Tq.pFF, .string ⟨#[]⟩, .int .i64 0, .int .i64 1] 34)) F7 w1.heap.size qa ra (.slice aa La ca) ∧ Rb12 (w11.alloc (.cells #[.int .i64 1, .string Tq.pA, .string ⟨#[]⟩, .int .i64 0, .int .i64 0, .int .i64 1, .string Tq.pAE, .string ⟨#[]⟩, .int .i64 0, .int .i64 1, .int .i64 1, .string Tq.pFF, .string ⟨#[]⟩, .int .i64 0, .int .i64 1] 34)) F7 w4.heap.size qc rc (.slice ac Lc cc) ∧ Rb12 (w11.alloc (.cells #[.int .i64 1, .string Tq.pA, .string ⟨#[]⟩, .int .i64 0, .int .i64 0, .int .i64 1, .string Tq.pAE, .string ⟨#[]⟩, .int .i64 0, .int .i64 1, .int .i64 1, .string Tq.pFF, .string ⟨#[]⟩, .int .i64 0, .int .i64 1] 34)) F7 w6.heap.size qe re (.slice ae Le ce) ∧ Om12 (w11.alloc (.cells #[.int .i64 1, .string Tq.pA, .string ⟨#[]⟩, .int .i64 0, .int .i64 0, .int .i64 1, .string Tq.pAE, .string ⟨#[]⟩, .int .i64 0, .int .i64 1, .int .i64 1, .string Tq.pFF, .string ⟨#[]⟩, .int .i64 0, .int .i64 1] 34)) F7 (.slice (some ⟨g11, 0, none⟩) 3 3) Tq.kops) := ⟨M11.out.1.later HS.out.1 ((Below.refl _ w11).alloc (Nat.le_refl _) _), M11.out.2.1.later ((Below.refl _ w11).alloc (Nat.le_refl _) _), M11.out.2.2.1.later ((Below.refl _ w11).alloc (Nat.le_refl _) _), M11.out.2.2.2.later ((Below.refl _ w11).alloc (Nat.le_refl _) _), by rw [hg11]; exact Om12.made w11 F7 (M11.out.1.flt HS.out.1) Tq.kops⟩
  go_wp2_with fail
  rw [← hg11]
  clear hg11 M11
  generalize (w11.alloc (.cells #[.int .i64 1, .string Tq.pA, .string ⟨#[]⟩, .int .i64 0, .int .i64 0, .int .i64 1, .string Tq.pAE, .string ⟨#[]⟩, .int .i64 0, .int .i64 1, .int .i64 1, .string Tq.pFF, .string ⟨#[]⟩, .int .i64 0, .int .i64 1] 34)) = w12 at *
  obtain ⟨rk, hrk⟩ : ∃ r, r = Tq.km.1.1 := ⟨_, rfl⟩
  obtain ⟨tk, htk⟩ : ∃ r, r = Tq.km.2 := ⟨_, rfl⟩
  have HTK : Hid (tk = Tq.km.2) := htk
  refine (M12.out.1.many HS.out.1 HS.out.2.1 HS.out.2.2.1 5 1 (.slice (some ⟨g11, 0, none⟩) 3 3) Tq.kops 0 (Tq.few_new 10) (by decide) M12.out.2.2.2.2 fit_kops (by decide) rk true tk (by rw [hrk, htk]; exact Prod.ext (Prod.ext rfl Tq.km_says.1) rfl)).mono ?_
  clear hrk htk
  rintro e w13 ⟨F13, u13, rfl, hR, hM, hmv⟩
  have M13 : Hid (Mine11 LT W w13 q tk F13 ∧ Rb12 w13 F13 w1.heap.size qa ra (.slice aa La ca) ∧ Rb12 w13 F13 w4.heap.size qc rc (.slice ac Lc cc) ∧ Rb12 w13 F13 w6.heap.size qe re (.slice ae Le ce)) := ⟨hM, M12.out.2.1.moved hmv, M12.out.2.2.1.moved hmv, M12.out.2.2.2.1.moved hmv⟩
  clear hR hM hmv M12
  unfold rpv
  go_wp2_with fail
  refine (M13.out.1.purge HS.out.1 HS.out.2.2.2 HS.out.2.2.1 5).mono ?_
  rintro e w14 ⟨F14, v14, ts, rfl, hp, hpw, hM, hrow, hof, hmv⟩
  have hts : ts = [Tq.pAE, Tq.pFF] := Tq.k_order (by rw [HTK.out, Tq.km_says.2] at hp; exact hp) hpw
  rw [hts] at hM hrow
  obtain ⟨td, htd⟩ : ∃ r, r = Tq.drops tk [Tq.pAE, Tq.pFF] := ⟨_, rfl⟩
  rw [← htd] at hM
  have HTD : Hid (td = Tq.kd ∧ Tq.Few td 3) := ⟨by rw [htd, HTK.out]; rfl, by rw [htd, HTK.out]; exact Tq.few_drops (by rw [← HTK.out]; exact M13.out.1.fine) Tq.few_km⟩
  obtain ⟨va, vc, ev, hj1, hj2⟩ := row_form hrow
  have M14 : Hid (Mine11 LT W w14 q td F14 ∧ Rb12 w14 F14 w1.heap.size qa ra (.slice aa La ca) ∧ Rb12 w14 F14 w4.heap.size qc rc (.slice ac Lc cc) ∧ Rb12 w14 F14 w6.heap.size qe re (.slice ae Le ce) ∧ Sm w14 F14 v14 [Tq.pAE, Tq.pFF]) := ⟨hM, M13.out.2.1.moved hmv, M13.out.2.2.1.moved hmv, M13.out.2.2.2.moved hmv, sm_row12 hrow rfl hof⟩
  subst ev
  clear hp hpw hts hM hrow hof hmv htd hj1 hj2 M13
  obtain ⟨g15, hg15⟩ : ∃ z, z = w14.heap.size := ⟨_, rfl⟩
  have M15 : Hid (Mine11 LT W (w14.alloc (.cells #[.int .i64 5, .string ⟨#[47, 102]⟩, .string ⟨#[]⟩, .int .i64 0, .int .i64 0] 34)) q td F14 ∧ Rb12 (w14.alloc (.cells #[.int .i64 5, .string ⟨#[47, 102]⟩, .string ⟨#[]⟩, .int .i64 0, .int .i64 0] 34)) F14 w1.heap.size qa ra (.slice aa La ca) ∧ Rb12 (w14.alloc (.cells #[.int .i64 5, .string ⟨#[47, 102]⟩, .string ⟨#[]⟩, .int .i64 0, .int .i64 0] 34)) F14 w4.heap.size qc rc (.slice ac Lc cc) ∧ Rb12 (w14.alloc (.cells #[.int .i64 5, .string ⟨#[47, 102]⟩, .string ⟨#[]⟩, .int .i64 0, .int .i64 0] 34)) F14 w6.heap.size qe re (.slice ae Le ce) ∧ Sm (w14.alloc (.cells #[.int .i64 5, .string ⟨#[47, 102]⟩, .string ⟨#[]⟩, .int .i64 0, .int .i64 0] 34)) F14 (.slice va [Tq.pAE, Tq.pFF].length vc) [Tq.pAE, Tq.pFF] ∧ Om12 (w14.alloc (.cells #[.int .i64 5, .string ⟨#[47, 102]⟩, .string ⟨#[]⟩, .int .i64 0, .int .i64 0] 34)) F14 (.slice (some ⟨g15, 0, none⟩) 1 1) [Tq.gtF]) := ⟨M14.out.1.later HS.out.1 ((Below.refl _ w14).alloc (Nat.le_refl _) _), M14.out.2.1.later ((Below.refl _ w14).alloc (Nat.le_refl _) _), M14.out.2.2.1.later ((Below.refl _ w14).alloc (Nat.le_refl _) _), M14.out.2.2.2.1.later ((Below.refl _ w14).alloc (Nat.le_refl _) _), M14.out.2.2.2.2.later ((Below.refl _ w14).alloc (Nat.le_refl _) _), by rw [hg15]; exact Om12.made w14 F14 (M14.out.1.flt HS.out.1) [Tq.gtF]⟩
  go_wp2_with fail
  rw [← hg15]
  clear hg15 M14
  generalize (w14.alloc (.cells #[.int .i64 5, .string ⟨#[47, 102]⟩, .string ⟨#[]⟩, .int .i64 0, .int .i64 0] 34)) = w15 at *
  obtain ⟨rf, hrf⟩ : ∃ r, r = Tq.ka.1 := ⟨_, rfl⟩
  obtain ⟨tf, htf⟩ : ∃ r, r = Tq.ka.2 := ⟨_, rfl⟩
  have HRF : Hid (rf.err = 4 ∧ rf.zxid = 9 ∧ rf.num = 7 ∧ tf.l.length = 1) := by rw [hrf, htf]; exact ⟨Tq.kd_says.2.1, Tq.kd_says.2.2.1, Tq.kd_says.2.2.2.1, Tq.kd_says.2.2.2.2⟩
  refine (M15.out.1.ask HS.out.1 HS.out.2.1 HS.out.2.2.1 1 7 9 (.slice (some ⟨g15, 0, none⟩) 1 1) [Tq.gtF] 3 HTD.out.2 (by decide) M15.out.2.2.2.2.2 fit_gtF (by unfold maxLen; decide) rf tf (by rw [hrf, htf, HTD.out.1]; rfl)).mono ?_
  clear hrf htf
  rintro e w16 ⟨F16, u16', rfl, hR, hM, hmv⟩
  obtain ⟨af, cf, rfl⟩ := hR.form
  obtain ⟨Lf, hL⟩ : ∃ L, L = rf.xs.length := ⟨_, rfl⟩
  rw [← hL] at hR ⊢
  clear hL
  obtain ⟨qf, hqf⟩ : ∃ z, z = w16.heap.size := ⟨_, rfl⟩
  have M17 : Hid (Mine11 LT W (w16.alloc (.cells #[.int .i64 rf.num, .int .i64 rf.zxid, .int .i64 rf.err, .int .i64 rf.at_, .slice af Lf cf] 73)) q tf F16 ∧ Rb12 (w16.alloc (.cells #[.int .i64 rf.num, .int .i64 rf.zxid, .int .i64 rf.err, .int .i64 rf.at_, .slice af Lf cf] 73)) F16 w1.heap.size qa ra (.slice aa La ca) ∧ Rb12 (w16.alloc (.cells #[.int .i64 rf.num, .int .i64 rf.zxid, .int .i64 rf.err, .int .i64 rf.at_, .slice af Lf cf] 73)) F16 w4.heap.size qc rc (.slice ac Lc cc) ∧ Rb12 (w16.alloc (.cells #[.int .i64 rf.num, .int .i64 rf.zxid, .int .i64 rf.err, .int .i64 rf.at_, .slice af Lf cf] 73)) F16 w6.heap.size qe re (.slice ae Le ce) ∧ Sm (w16.alloc (.cells #[.int .i64 rf.num, .int .i64 rf.zxid, .int .i64 rf.err, .int .i64 rf.at_, .slice af Lf cf] 73)) F16 (.slice va [Tq.pAE, Tq.pFF].length vc) [Tq.pAE, Tq.pFF] ∧ Rb12 (w16.alloc (.cells #[.int .i64 rf.num, .int .i64 rf.zxid, .int .i64 rf.err, .int .i64 rf.at_, .slice af Lf cf] 73)) F16 w15.heap.size qf rf (.slice af Lf cf)) := ⟨hM.later HS.out.1 ((Below.refl _ w16).alloc (Nat.le_refl _) _), (M15.out.2.1.moved hmv).later ((Below.refl _ w16).alloc (Nat.le_refl _) _), (M15.out.2.2.1.moved hmv).later ((Below.refl _ w16).alloc (Nat.le_refl _) _), (M15.out.2.2.2.1.moved hmv).later ((Below.refl _ w16).alloc (Nat.le_refl _) _), (M15.out.2.2.2.2.1.moved hmv).later ((Below.refl _ w16).alloc (Nat.le_refl _) _), by rw [hqf]; exact Rb12.made (hM.flt HS.out.1) hR⟩
  clear hR hM hmv M15
  unfold rpv
  go_upto_region 10 with fail
  rw [← hqf]
  clear hqf
  generalize (w16.alloc (.cells #[.int .i64 rf.num, .int .i64 rf.zxid, .int .i64 rf.err, .int .i64 rf.at_, .slice af Lf cf] 73)) = w17 at *
  have a2 : w17.cell? ⟨qa, 2, none⟩ = some (.int .i64 1) := by rw [← HRA.out.1]; exact (M17.out.2.1.blk.cb.cell 2).trans rfl
  have a3 : w17.cell? ⟨qa, 3, none⟩ = some (.int .i64 (-1)) := by rw [← HRA.out.2]; exact (M17.out.2.1.blk.cb.cell 3).trans rfl
  have b2 : w17.cell? ⟨qc, 2, none⟩ = some (.int .i64 2) := by rw [← HRC.out]; exact (M17.out.2.2.1.blk.cb.cell 2).trans rfl
  have e2 : w17.cell? ⟨qe, 2, none⟩ = some (.int .i64 1) := by rw [← HRE.out.1]; exact (M17.out.2.2.2.1.blk.cb.cell 2).trans rfl
  have e0 : w17.cell? ⟨qe, 0, none⟩ = some (.int .i64 4) := by rw [← HRE.out.2.1]; exact (M17.out.2.2.2.1.blk.cb.cell 0).trans rfl
  have e1 : w17.cell? ⟨qe, 1, none⟩ = some (.int .i64 0) := by rw [← HRE.out.2.2]; exact (M17.out.2.2.2.1.blk.cb.cell 1).trans rfl
  have M18 : Hid (Mine11 LT W (w17.alloc (.cells #[.string ⟨#[47, 97, 47, 101]⟩, .string ⟨#[47, 102]⟩] 9)) q tf F16 ∧ Rb12 (w17.alloc (.cells #[.string ⟨#[47, 97, 47, 101]⟩, .string ⟨#[47, 102]⟩] 9)) F16 w15.heap.size qf rf (.slice af Lf cf) ∧ Ss (w17.alloc (.cells #[.string ⟨#[47, 97, 47, 101]⟩, .string ⟨#[47, 102]⟩] 9)) (.slice va [Tq.pAE, Tq.pFF].length vc) [Tq.pAE, Tq.pFF] ∧ Ss (w17.alloc (.cells #[.string ⟨#[47, 97, 47, 101]⟩, .string ⟨#[47, 102]⟩] 9)) (.slice (some ⟨w17.heap.size, 0, none⟩) 2 2) [Tq.pAE, Tq.pFF]) := ⟨M17.out.1.later HS.out.1 ((Below.refl _ w17).alloc (Nat.le_refl _) _), M17.out.2.2.2.2.2.later ((Below.refl _ w17).alloc (Nat.le_refl _) _), M17.out.2.2.2.2.1.ss.below ((Below.refl _ w17).alloc (Nat.le_refl _) _), sm_two Tq.pAE Tq.pFF⟩
  go_wp2_with fail
  clear a2 a3 b2 e2 e0 e1 M17
  obtain ⟨g17, hg17⟩ : ∃ z, z = w17.heap.size := ⟨_, rfl⟩
  rw [← hg17] at M18 ⊢
  clear hg17
  refine (Pw.same_any (.slice va [Tq.pAE, Tq.pFF].length vc) (.slice (some ⟨g17, 0, none⟩) 2 2) [Tq.pAE, Tq.pFF] [Tq.pAE, Tq.pFF] _ M18.out.2.2.1 M18.out.2.2.2 (by decide) (by decide)).mono ?_
  rintro e w19 ⟨rfl, hb⟩
  have M19 : Hid (Mine11 LT W w19 q tf F16 ∧ Rb12 w19 F16 w15.heap.size qf rf (.slice af Lf cf)) := ⟨M18.out.1.later HS.out.1 hb, M18.out.2.1.later hb⟩
  have hsame : decide ([Tq.pAE, Tq.pFF] = [Tq.pAE, Tq.pFF]) = true := decide_eq_true rfl
  rw [hsame]
  clear hb hsame M18
  go_wp2_with fail
  refine (M19.out.1.len HS.out.1).mono ?_
  rintro e w20 ⟨F20, rfl, hM, hmv⟩
  have M20 : Hid (Mine11 LT W w20 q tf F20 ∧ Rb12 w20 F20 w15.heap.size qf rf (.slice af Lf cf)) := ⟨hM, M19.out.2.moved hmv⟩
  have hl1 : (tf.l.length : Int) = 1 := by rw [HRF.out.2.2.2]; rfl
  rw [hl1]
  clear hM hmv hl1 M19
  have f2 : w20.cell? ⟨qf, 2, none⟩ = some (.int .i64 4) := by rw [← HRF.out.1]; exact (M20.out.2.blk.cb.cell 2).trans rfl
  have f1 : w20.cell? ⟨qf, 1, none⟩ = some (.int .i64 9) := by rw [← HRF.out.2.1]; exact (M20.out.2.blk.cb.cell 1).trans rfl
  have f0 : w20.cell? ⟨qf, 0, none⟩ = some (.int .i64 7) := by rw [← HRF.out.2.2.1]; exact (M20.out.2.blk.cb.cell 0).trans rfl
  go_wp2
  go_ret
  exact ⟨rfl, M20.out.1.below⟩
end Go.Proofs.YtfcbdjjbchcpjaaGreatDoor
