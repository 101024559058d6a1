/- SnapRoom's walk. -/
import Derived.Test.YtpidafpaffpnaaaGreatDoorLAwake14
namespace Go.Proofs.YtpidafpaffpnaaaGreatDoor.Tq
def pNew : ByteArray := ⟨#[47, 110, 101, 119]⟩
theorem pNew_good : Pl.goodB pNew.data.toList = true := by kernel_rfl
theorem pNew_top : up pNew = none := by kernel_rfl
theorem full14 {t : Tr} (hf : find t.l pNew = none) (hr : t.room ≤ (t.l.length : Int)) : doo t (mk pNew 0) 1 1 = (fail 9, t) := by
  rw [doo_top pNew_good (Or.inl rfl) pNew_top (by decide) (by decide)]
  unfold makeAt
  rw [hf]
  simp only []
  rw [if_pos hr]
end Go.Proofs.YtpidafpaffpnaaaGreatDoor.Tq
namespace Go.Proofs.YtpidafpaffpnaaaGreatDoor
open Go.RowKit
set_option maxRecDepth 20000 in
set_option maxHeartbeats 8000000 in
theorem room_any14 {LT : Rep11} (S : Specs11 LT) (Q : SpecQ14 LT) (G : SpecS14 LT) (v : Value) (os : List O) (W : World) (hS : Pa.Std W) (hv : Ol W v os) (hl : os.length ≤ maxLen) (hf : ∀ o ∈ os, OFit o) :
    Calls Tryz.prog 8 #[v] W fun e w' => e = .returned (.bool true) ∧ Below W.heap.size W w' := by
  have HS : Hid (Specs11 LT ∧ SpecQ14 LT ∧ SpecS14 LT ∧ Pa.Std W) := ⟨S, Q, G, hS⟩
  have HA : Hid (Ol W v os ∧ os.length ≤ maxLen ∧ ∀ o ∈ os, OFit o) := ⟨hv, hl, hf⟩
  obtain ⟨aa, n, ac, rfl, hn, hjj⟩ := hv
  clear S Q G hS hl hf hn hjj
  go_enter Tryz.func8, Tryz.ntmps8
  go_wp2_with fail
  refine (awake_any14 HS.out.1 HS.out.2.1 HS.out.2.2.1 W HS.out.2.2.2).mono ?_
  rintro e w0 ⟨rfl, hb⟩
  have H0 : Hid (Below W.heap.size W w0) := hb
  clear hb
  go_wp2_with fail
  refine (grown_any14 HS.out.1 (.slice aa n ac) os w0 (HS.out.2.2.2.below H0.out) (HA.out.1.below H0.out) HA.out.2.1 HA.out.2.2).mono ?_
  rintro e w1 ⟨hbig, hok, hb⟩
  have H1 : Hid (Below W.heap.size W w1) := H0.out.trans (hb.mono H0.out.size)
  cases hga : greatB os with
  | true =>
    obtain rfl := hbig hga
    clear hbig hok hga hb
    go_wp2
    go_ret
    exact ⟨rfl, H1.out⟩
  | false =>
  obtain ⟨q, t, F, rfl, hL, hgr, hrm, hF⟩ := hok hga
  have M1 : Hid (Mine11 LT W w1 q t F ∧ Tq.Gr t os.length ∧ os.length ≤ 20 ∧ t.l.length ≤ 60) := ⟨⟨hL, hgr.fine, fun k hk => Nat.le_trans H0.out.size (hF k hk), H1.out⟩, hgr, great_no14 hga, hgr.sixty hrm⟩
  clear hbig hok hga hb hL hgr hrm hF H0 H1
  unfold dptr
  go_wp2_with fail
  refine (HS.out.2.1.len q t F w1 M1.out.1.ld).mono ?_
  rintro e w2 ⟨rfl, hb⟩
  have M2 : Hid (Mine11 LT W w2 q t F) := M1.out.1.later HS.out.1 hb
  clear hb
  obtain ⟨L, hL⟩ : ∃ L, L = t.l.length := ⟨_, rfl⟩
  rw [← hL]
  have HL : Hid (L = t.l.length) := hL
  have hL60 : L ≤ 60 := by have := M1.out.2.2.2; omega
  clear hL
  by_cases h2 : L < 2
  · have h2' : (L : Int) < 2 := by omega
    go_wp2
    go_ret
    exact ⟨rfl, M2.out.below⟩
  have h2' : ¬ (L : Int) < 2 := by omega
  go_wp2_with fail
  refine (M2.out.put14 HS.out.1 HS.out.2.2.1 M1.out.2.1).mono ?_
  rintro e w3 ⟨a3, n3, c3, rfl, hn3, ho, hM, hb⟩
  have M3 : Hid (Mine11 LT W w3 q t F ∧ Bs w3 (.slice a3 n3 c3) (Tq.image t.l)) := ⟨hM, Bs.own ho⟩
  clear hn3 ho hM hb
  go_wp2_with fail
  refine (HS.out.2.1.len q t F w3 M3.out.1.ld).mono ?_
  rintro e w4 ⟨rfl, hb⟩
  have M4 : Hid (Mine11 LT W w4 q t F ∧ Bs w4 (.slice a3 n3 c3) (Tq.image t.l)) := ⟨M3.out.1.later HS.out.1 hb, M3.out.2.below hb⟩
  clear hb
  rw [← HL.out]
  go_wp2_with fail
  refine (M4.out.1.back14 HS.out.1 HS.out.2.2.1 HS.out.2.2.2 (.slice a3 n3 c3) M4.out.2 M1.out.2.1 (by have := M1.out.2.2.1; omega) M1.out.2.2.2 (L : Int) (by omega) (by rw [← HL.out]; omega)).mono ?_
  rintro e w5 ⟨q2, F2, rfl, hT, hb⟩
  have M5 : Hid (Two14 LT W w5 q t F q2 ⟨(L : Int), t.l⟩ F2) := hT
  clear hT hb
  unfold dptr
  go_wp2_with fail
  refine (M5.out.one.put14 HS.out.1 HS.out.2.2.1 M1.out.2.1).mono ?_
  rintro e w6 ⟨a6, n6, c6, rfl, hn6, ho, hM, hb⟩
  have M6 : Hid (Two14 LT W w6 q t F q2 ⟨(L : Int), t.l⟩ F2 ∧ Bs w6 (.slice a6 n6 c6) (Tq.image t.l)) := ⟨M5.out.later HS.out.1 hb, Bs.own ho⟩
  clear hn6 ho hM hb
  go_wp2_with fail
  refine (HS.out.2.1.len q t F w6 M6.out.1.one.ld).mono ?_
  rintro e w7 ⟨rfl, hb⟩
  have M7 : Hid (Two14 LT W w7 q t F q2 ⟨(L : Int), t.l⟩ F2 ∧ Bs w7 (.slice a6 n6 c6) (Tq.image t.l)) := ⟨M6.out.1.later HS.out.1 hb, M6.out.2.below hb⟩
  clear hb
  rw [← HL.out]
  have hws : IntKind.wrap .i64 ((L : Int) - 1) = (L : Int) - 1 := by rw [IntKind.wrap_i64]; omega
  go_wp2_with fail
  refine (M7.out.1.one.less14 HS.out.2.2.1 HS.out.2.2.2 (.slice a6 n6 c6) M7.out.2 M1.out.2.1 (by have := M1.out.2.2.1; omega) M1.out.2.2.2 ((L : Int) - 1) (by omega) (by rw [← HL.out]; omega)).mono ?_
  rintro e w8 ⟨rfl, hb⟩
  have M8 : Hid (Two14 LT W w8 q t F q2 ⟨(L : Int), t.l⟩ F2) := M7.out.1.later HS.out.1 hb
  clear hb
  go_wp2_with fail
  refine (HS.out.2.1.node q2 ⟨(L : Int), t.l⟩ F2 Tq.pNew w8 M8.out.two.ld M8.out.two.fine (by unfold maxLen; decide)).mono ?_
  rintro e w9 ⟨hN, hb⟩
  have M9 : Hid (Two14 LT W w9 q t F q2 ⟨(L : Int), t.l⟩ F2) := M8.out.later HS.out.1 hb
  cases hfd : Tq.find t.l Tq.pNew with
  | some n =>
    obtain ⟨u, rfl, hsq, hof⟩ := hN.1 n hfd
    obtain ⟨ma, mL, mc, rfl, hj1, hj2⟩ := hsq
    clear hN hb hfd hof hj1 hj2
    unfold kv
    go_wp2
    go_ret
    exact ⟨rfl, M9.out.one.below.alloc M9.out.one.below.size _⟩
  | none =>
    obtain ⟨na, nc, rfl⟩ := hN.2 hfd
    have HF : Hid (Tq.doo ⟨(L : Int), t.l⟩ (Tq.mk Tq.pNew 0) 1 1 = (Tq.fail 9, ⟨(L : Int), t.l⟩)) := Tq.full14 hfd (by show (L : Int) ≤ (t.l.length : Int); have := HL.out; omega)
    have M10 : Hid (Mine11 LT W (w9.alloc (.cells #[.int .i64 0, .int .i64 0, .int .i64 0, .int .i64 0, .int .i64 0, .int .i64 0, .int .i64 0, .string ⟨#[]⟩, .int .i64 0, .slice na 0 nc] 38)) q2 ⟨(L : Int), t.l⟩ F2) := M9.out.two.later HS.out.1 ((Below.refl _ w9).alloc (Nat.le_refl _) _)
    clear hN hb hfd
    unfold kv Kq.zero
    go_upto_region 12 with fail
    generalize w9.alloc (.cells #[.int .i64 0, .int .i64 0, .int .i64 0, .int .i64 0, .int .i64 0, .int .i64 0, .int .i64 0, .string ⟨#[]⟩, .int .i64 0, .slice na 0 nc] 38) = w10 at *
    go_wp2_with fail
    refine (M10.out.doo HS.out.1 HS.out.2.2.2 (Tq.mk Tq.pNew 0) 1 1 ⟨by simp [Tq.mk], by show Tq.pNew.size ≤ maxLen; unfold maxLen; decide, by simp [Tq.mk, maxLen, ByteArray.size], by simp [Tq.mk], by simp [Tq.mk]⟩ (Tq.fail 9) ⟨(L : Int), t.l⟩ HF.out M10.out.fine).mono ?_
    rintro e w11 ⟨F11, v11, rfl, hsq, hof, hM, hmv⟩
    have H11 : Hid (Below W.heap.size W w11) := hM.below
    obtain ⟨va, vk, vc, rfl, hj1, hj2⟩ := hsq
    clear hof hM hmv hj1 hj2
    unfold rv Tq.fail
    simp only []
    have hfl : ∀ w, (Instr.field 44 (.agg #[.int .i64 9, .string ⟨#[]⟩, .string ⟨#[]⟩, .slice va vk vc, .int .i64 0, .int .i64 0, .int .i64 0, .int .i64 0, .int .i64 0, .int .i64 0, .int .i64 0]) 0).run Tryz.prog w = .ok (.int .i64 9) w := fun _ => by kernel_rfl
    go_wp2
    go_ret
    exact ⟨rfl, H11.out⟩
end Go.Proofs.YtpidafpaffpnaaaGreatDoor
