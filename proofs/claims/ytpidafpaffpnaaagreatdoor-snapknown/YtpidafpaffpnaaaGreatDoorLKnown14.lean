/- SnapKnown's walk. -/
import Derived.Test.YtpidafpaffpnaaaGreatDoorLAwake14
namespace Go.Proofs.YtpidafpaffpnaaaGreatDoor.Tq
open Kq
def oA14 : O := ⟨1, ⟨#[47, 97]⟩, ⟨#[120]⟩, 0, 0⟩
def oB14 : O := ⟨1, ⟨#[47, 97, 47, 98]⟩, ⟨#[]⟩, 0, 0⟩
def kt1 : X × Tr := doo ⟨5, []⟩ oA14 1 1
def kt2 : X × Tr := doo kt1.2 oB14 1 2
theorem kt2_len : kt2.2.l.length = 2 := by kernel_rfl
theorem kt1_gr : Gr kt1.2 1 := (gr_new (r := 5) (by decide)).doo (by decide) (by decide) (by decide)
theorem kt2_gr : Gr kt2.2 2 := kt1_gr.doo (by decide) (by decide) (by decide)
def lone : List En := [(⟨#[47, 97, 47, 98]⟩, zero)]
theorem load_lone : load ⟨5, []⟩ ⟨#[47, 97, 47, 98]⟩ zero = (0, ⟨5, lone⟩) := by kernel_rfl
theorem lone_good : Pl.goodB (⟨#[47, 97, 47, 98]⟩ : ByteArray).data.toList = true := by kernel_rfl
theorem lone_fine : Fine11 ⟨5, lone⟩ := by
  refine ⟨List.pairwise_singleton _ _, by decide, by decide, fun e he => ?_⟩
  simp only [lone, List.mem_singleton] at he
  rw [he]
  exact ⟨lone_good, by simp [zero], by simp [zero], by simp [zero], by simp [zero], by simp [zero], by simp [zero, ByteArray.size], List.Pairwise.nil⟩
theorem lone_all : ∀ e ∈ lone, Lay e ∧ Fit e.2 := fun e he => by
  simp only [lone, List.mem_singleton] at he
  rw [he]
  exact ⟨⟨lay_of lone_good List.Pairwise.nil (by simp [zero]) (by simp [zero]), rfl⟩, by simp [zero], by simp [zero], by simp [zero], by simp [zero], by simp [zero], by simp [zero], by simp [zero, ByteArray.size], by simp [zero], by simp [zero], rfl, rfl, List.Pairwise.nil⟩
theorem lone_apart : joinB lone = false := by kernel_rfl
theorem get_lone : getT (image lone) 5 = (3, none) := get_apart (by decide) (rdT_image lone_all lone_fine.rise (by decide)) (by rw [lone_apart]; simp)
theorem get_nil14 : getT [] 5 = (3, none) := get_form (by decide) (by kernel_rfl)
end Go.Proofs.YtpidafpaffpnaaaGreatDoor.Tq
namespace Go.Proofs.YtpidafpaffpnaaaGreatDoor
open Go.RowKit
set_option maxRecDepth 20000 in
set_option maxHeartbeats 8000000 in
theorem known_any14 {LT : Rep11} (S : Specs11 LT) (Q : SpecQ14 LT) (G : SpecS14 LT) (W : World) (hS : Pa.Std W) :
    Calls Tryz.prog 7 #[] W fun e w' => e = .returned (.bool true) ∧ Below W.heap.size W w' := by
  have HS : Hid (Specs11 LT ∧ SpecQ14 LT ∧ SpecS14 LT ∧ Pa.Std W) := ⟨S, Q, G, hS⟩
  clear S Q G hS
  go_enter Tryz.func7, Tryz.ntmps7
  go_wp2_with fail
  refine (awake_any14 HS.out.1 HS.out.2.1 HS.out.2.2.1 W HS.out.2.2.2).mono ?_
  rintro e w0 ⟨rfl, hb⟩
  have H0 : Hid (Below W.heap.size W w0) := hb
  clear hb
  go_wp2_with fail
  refine (Mine11.made14 HS.out.1 5 (by decide) H0.out).mono ?_
  rintro e w1 ⟨q, F1, rfl, hM, hb, hF⟩
  have M1 : Hid (Mine11 LT W w1 q ⟨5, []⟩ F1) := hM
  clear hM hb hF
  unfold dptr
  go_wp2_with fail
  obtain ⟨x1, hx1⟩ : ∃ x, x = Tq.kt1.1 := ⟨_, rfl⟩
  obtain ⟨t1, ht1⟩ : ∃ x, x = Tq.kt1.2 := ⟨_, rfl⟩
  have HT1 : Hid (t1 = Tq.kt1.2) := ht1
  refine (M1.out.doo HS.out.1 HS.out.2.2.2 Tq.oA14 1 1 ⟨by decide, by unfold maxLen; decide, by unfold maxLen; decide, by decide, by decide⟩ x1 t1 (by rw [hx1, ht1]; rfl) (by rw [ht1]; exact Tq.kt1_gr.fine)).mono ?_
  clear hx1 ht1
  rintro e w2 ⟨F2, v2, rfl, hsq, hof, hM, hmv⟩
  have M2 : Hid (Mine11 LT W w2 q t1 F2) := hM
  obtain ⟨va, vk, vc, rfl, hj1, hj2⟩ := hsq
  clear hof hM hmv hj1 hj2
  unfold rv
  go_wp2_with fail
  obtain ⟨x2, hx2⟩ : ∃ x, x = Tq.kt2.1 := ⟨_, rfl⟩
  obtain ⟨t, ht⟩ : ∃ x, x = Tq.kt2.2 := ⟨_, rfl⟩
  have HT : Hid (Tq.Gr t 2 ∧ t.l.length = 2) := by rw [ht]; exact ⟨Tq.kt2_gr, Tq.kt2_len⟩
  refine (M2.out.doo HS.out.1 HS.out.2.2.2 Tq.oB14 1 2 ⟨by decide, by unfold maxLen; decide, by unfold maxLen; decide, by decide, by decide⟩ x2 t (by rw [hx2, ht, HT1.out]; rfl) HT.out.1.fine).mono ?_
  clear hx2 ht
  rintro e w3 ⟨F, v3, rfl, hsq, hof, hM, hmv⟩
  have M3 : Hid (Mine11 LT W w3 q t F) := hM
  obtain ⟨vd, ve, vf, rfl, hj1, hj2⟩ := hsq
  clear hof hM hmv hj1 hj2
  unfold rv
  go_wp2_with fail
  refine (M3.out.put14 HS.out.1 HS.out.2.2.1 HT.out.1).mono ?_
  rintro e w4 ⟨a4, n4, c4, rfl, hn, ho, hM, hb⟩
  have M4 : Hid (Mine11 LT W w4 q t F ∧ Bs w4 (.slice a4 n4 c4) (Tq.image t.l)) := ⟨hM, Bs.own ho⟩
  clear hn ho hM hb
  go_wp2_with fail
  refine (get_no14 HS.out.2.2.1 (.slice a4 n4 c4) (Tq.image t.l) 0 1 w4 M4.out.2 (HT.out.1.long (by omega) (by have := HT.out.2; omega)) (HS.out.2.2.2.below M4.out.1.below) (Tq.get_one (by decide) _)).mono ?_
  rintro e w5 ⟨rfl, hb⟩
  have M5 : Hid (Mine11 LT W w5 q t F) := M4.out.1.later HS.out.1 hb
  clear hb
  go_wp2_with fail
  refine (M5.out.put14 HS.out.1 HS.out.2.2.1 HT.out.1).mono ?_
  rintro e w6 ⟨a6, n6, c6, rfl, hn, ho, hM, hb⟩
  have M6 : Hid (Mine11 LT W w6 q t F ∧ Bs w6 (.slice a6 n6 c6) (Tq.image t.l)) := ⟨hM, Bs.own ho⟩
  clear hn ho hM hb
  go_wp2_with fail
  refine (M6.out.1.less14 HS.out.2.2.1 HS.out.2.2.2 (.slice a6 n6 c6) M6.out.2 HT.out.1 (by omega) (by have := HT.out.2; omega) 1 (by decide) (by rw [HT.out.2]; decide)).mono ?_
  rintro e w7 ⟨rfl, hb⟩
  have M7 : Hid (Mine11 LT W w7 q t F) := M6.out.1.later HS.out.1 hb
  clear hb
  go_wp2_with fail
  refine (M7.out.put14 HS.out.1 HS.out.2.2.1 HT.out.1).mono ?_
  rintro e w8 ⟨a8, n8, c8, rfl, hn, ho, hM, hb⟩
  have M8 : Hid (Mine11 LT W w8 q t F ∧ Bs w8 (.slice a8 n8 c8) (Tq.image t.l)) := ⟨hM, Bs.own ho⟩
  clear hn ho hM hb
  go_wp2_with fail
  refine (M8.out.1.back14 HS.out.1 HS.out.2.2.1 HS.out.2.2.2 (.slice a8 n8 c8) M8.out.2 HT.out.1 (by omega) (by have := HT.out.2; omega) 2 (by decide) (by rw [HT.out.2]; decide)).mono ?_
  rintro e w9 ⟨q2, F9, rfl, hTw, hb⟩
  have M9 : Hid (Two14 LT W w9 q t F q2 ⟨2, t.l⟩ F9) := hTw
  clear hTw hb
  unfold dptr
  go_wp2_with fail
  refine (get_no14 HS.out.2.2.1 (.slice none 0 0) [] 5 3 w9 (Bs.nil _) (by simp) (HS.out.2.2.2.below M9.out.one.below) Tq.get_nil14).mono ?_
  rintro e wA ⟨rfl, hb⟩
  have MA : Hid (Two14 LT W wA q t F q2 ⟨2, t.l⟩ F9) := M9.out.later HS.out.1 hb
  clear hb
  go_wp2_with fail
  refine (Mine11.made14 HS.out.1 5 (by decide) MA.out.one.below).mono ?_
  rintro e wB ⟨q3, FB, rfl, hM, hb, hF⟩
  have MB : Hid (Two14 LT W wB q t F q3 ⟨5, []⟩ FB ∧ Two14 LT W wB q2 ⟨2, t.l⟩ F9 q3 ⟨5, []⟩ FB) := ⟨MA.out.one.and14 HS.out.1 hb hM.ld hM.fine hF, MA.out.two.and14 HS.out.1 hb hM.ld hM.fine hF⟩
  clear hM hb hF MA
  unfold dptr
  go_wp2_with fail
  refine (MB.out.1.two.loadd14 HS.out.1 HS.out.2.2.2 ⟨#[47, 97, 47, 98]⟩ Kq.zero (.slice none 0 0) ⟨_, _, _, rfl, rfl, fun j s hs => by simp [Kq.zero] at hs⟩ (fun h => absurd rfl h) (by simp [Kq.zero]) (by simp [Kq.zero]) (by simp [Kq.zero, ByteArray.size]) (by unfold maxLen; decide) 0 ⟨5, Tq.lone⟩ Tq.load_lone Tq.lone_fine).mono ?_
  rintro e wC ⟨FC, rfl, hM, hmv⟩
  have MC : Hid (Two14 LT W wC q t F q3 ⟨5, Tq.lone⟩ FC ∧ Two14 LT W wC q2 ⟨2, t.l⟩ F9 q3 ⟨5, Tq.lone⟩ FC) := ⟨MB.out.1.right HS.out.1 hM hmv, MB.out.2.right HS.out.1 hM hmv⟩
  clear hM hmv MB
  go_wp2_with fail
  refine (HS.out.2.2.1.put q3 ⟨5, Tq.lone⟩ FC wC MC.out.1.two.ld MC.out.1.two.fine (fun e he => by have := (Tq.lone_all e he).2.data; omega)).mono ?_
  rintro e wD ⟨aD, nD, cD, rfl, ho, hb⟩
  have MD : Hid (Two14 LT W wD q t F q3 ⟨5, Tq.lone⟩ FC ∧ Two14 LT W wD q2 ⟨2, t.l⟩ F9 q3 ⟨5, Tq.lone⟩ FC ∧ Bs wD (.slice aD nD cD) (Tq.image Tq.lone)) := ⟨MC.out.1.later HS.out.1 hb, MC.out.2.later HS.out.1 hb, Bs.own ho⟩
  clear ho hb MC
  go_wp2_with fail
  refine (get_no14 HS.out.2.2.1 (.slice aD nD cD) (Tq.image Tq.lone) 5 3 wD MD.out.2.2 (by have : (Tq.image Tq.lone).length = 84 := (by kernel_rfl); omega) (HS.out.2.2.2.below MD.out.1.one.below) Tq.get_lone).mono ?_
  rintro e wE ⟨rfl, hb⟩
  have ME : Hid (Two14 LT W wE q t F q3 ⟨5, Tq.lone⟩ FC ∧ Two14 LT W wE q2 ⟨2, t.l⟩ F9 q3 ⟨5, Tq.lone⟩ FC) := ⟨MD.out.1.later HS.out.1 hb, MD.out.2.1.later HS.out.1 hb⟩
  clear hb MD
  go_wp2_with fail
  refine (HS.out.2.2.1.same q t F q2 ⟨2, t.l⟩ F9 wE ME.out.1.one.ld ME.out.1.one.fine ME.out.2.one.ld ME.out.2.one.fine).mono ?_
  rintro e wG ⟨R, rfl, hR, hb⟩
  obtain rfl : R = true := hR.2 rfl
  have MG : Hid (Two14 LT W wG q t F q3 ⟨5, Tq.lone⟩ FC) := ME.out.1.later HS.out.1 hb
  clear hR hb ME
  go_wp2_with fail
  refine (HS.out.2.2.1.same q t F q3 ⟨5, Tq.lone⟩ FC wG MG.out.one.ld MG.out.one.fine MG.out.two.ld MG.out.two.fine).mono ?_
  rintro e wH ⟨R, rfl, hR, hb⟩
  obtain rfl : R = false := by
    cases R with
    | false => rfl
    | true =>
      have h1 := congrArg List.length (hR.1 rfl)
      rw [HT.out.2] at h1
      cases h1
  have MH : Hid (Below W.heap.size W wH) := MG.out.one.below.trans (hb.mono MG.out.one.below.size)
  clear hR hb MG
  go_wp2
  go_ret
  exact ⟨rfl, MH.out⟩
end Go.Proofs.YtpidafpaffpnaaaGreatDoor
