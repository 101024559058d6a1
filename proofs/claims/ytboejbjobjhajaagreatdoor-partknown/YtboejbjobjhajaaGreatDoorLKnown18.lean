/- PartKnown's walk. -/
import Derived.Test.YtboejbjobjhajaaGreatDoorMn18
import Derived.Test.YtboejbjobjhajaaGreatDoorWb18
namespace Go.Proofs.YtboejbjobjhajaaGreatDoor.Pt
open Tq
def pXY : ByteArray := ⟨#[47, 120, 47, 121]⟩
def pB : ByteArray := ⟨#[47, 98]⟩
def pC : ByteArray := ⟨#[47, 99]⟩
def pD : ByteArray := ⟨#[47, 100]⟩
def pE : ByteArray := ⟨#[47, 101]⟩
def pF : ByteArray := ⟨#[47, 102]⟩
def kn1 : (Int × Int) × St := prepare (new 2) 0 1 [Tq.mk Tq.pA 0]
theorem kn1_a : kn1.1.1 = 1 := by kernel_rfl
def kn2 : (Int × Int) × St := prepare kn1.2 3 1 []
theorem kn2_a : kn2.1.1 = 1 := by kernel_rfl
def kn3 : (Int × Int) × St := prepare kn2.2 1 1 [Tq.mk Tq.pA 0, Tq.mk pXY 0]
theorem kn3_a : kn3.1.1 = 4 := by kernel_rfl
theorem kn3_b : kn3.1.2 = 1 := by kernel_rfl
def kn4 : (Int × Int) × St := prepare kn3.2 1 1 [Tq.mk pB 0]
theorem kn4_a : kn4.1.1 = 1 := by kernel_rfl
def kn5 : (List X × Int) × St := decide_ kn4.2 1 true
theorem kn5_a : kn5.1.2 = 0 := by kernel_rfl
theorem kn5_b : kn5.1.1.length = 0 := by kernel_rfl
def kn6 : (Int × Int) × St := prepare kn5.2 1 1 [Tq.mk pB 0]
theorem kn6_a : kn6.1.1 = 1 := by kernel_rfl
def kn7 : (List X × Int) × St := decide_ kn6.2 1 true
theorem kn7_a : kn7.1.2 = 4 := by kernel_rfl
def kn8 : (Int × Int) × St := prepare kn7.2 2 5 [Tq.mk pC 1]
def kn9 : Rp × St := local_ kn8.2 1 1 [Tq.mk pD 0, Tq.mk pE 0]
theorem kn9_a : kn9.1.err = 12 := by kernel_rfl
theorem kn9_b : kn9.1.at_ = 0 := by kernel_rfl
def kn10 : (Int × Int) × St := close kn9.2 4 5
theorem kn10_a : kn10.1.1 = 12 := by kernel_rfl
def kn11 : (List X × Int) × St := decide_ kn10.2 2 true
def kn12 : (Int × Int) × St := close kn11.2 4 5
theorem kn12_a : kn12.1.1 = 0 := by kernel_rfl
def kn13 : Rp × St := local_ kn12.2 5 1 [Tq.mk pF 0]
theorem kn13_a : kn13.1.err = 12 := by kernel_rfl
theorem kn13_b : kn13.1.at_ = -1 := by kernel_rfl
def kn14 : (List X × Int) × St := decide_ kn13.2 4 true
def kn15 : Rp × St := local_ kn14.2 5 1 [Tq.mk pF 0]
theorem kn15_a : kn15.1.err = 11 := by kernel_rfl
theorem kn15_b : kn15.1.at_ = -1 := by kernel_rfl
theorem kn15_c : kn15.1.xs.length = 1 := by kernel_rfl
def kn16 : (Int × Int) × St := close kn15.2 6 5
theorem kn16_a : kn16.1.1 = 11 := by kernel_rfl
theorem kn3_w : (wanted kn3.2 : Int) = 0 ∧ (kn3.2.lk.length : Int) = 2 := ⟨by kernel_rfl, by kernel_rfl⟩
theorem kn_end : decide ((5 : Int) ∈ kn16.2.cl) = true ∧ kn16.2.t.l.length = 0 := ⟨by kernel_rfl, by kernel_rfl⟩
end Go.Proofs.YtboejbjobjhajaaGreatDoor.Pt
namespace Go.Proofs.YtboejbjobjhajaaGreatDoor
open Go.RowKit
theorem fit_mks18 {p p' : ByteArray} (hp : p.size ≤ maxLen) (hp' : p'.size ≤ maxLen) : ∀ o ∈ [Tq.mk p 0, Tq.mk p' 0], OFit o := by
  intro o ho
  simp only [List.mem_cons, List.not_mem_nil, or_false] at ho
  rcases ho with rfl | rfl
  · exact fit_mk hp (by decide)
  · exact fit_mk hp' (by decide)
set_option maxRecDepth 20000 in
set_option maxHeartbeats 16000000 in
theorem known_any18 {LT : Rep11} {LP : Rep18} (S : Specs18 LT LP) (Q : SpecQ18 LT) (W : World) (hS : Pa.Std W) :
    Calls Tryz.prog 3 #[] W fun e w' => e = .returned (.bool true) ∧ Below W.heap.size W w' := by
  have HS : Hid (Specs18 LT LP ∧ Pa.Std W ∧ SpecQ18 LT) := ⟨S, hS, Q⟩
  clear S hS Q
  obtain ⟨s1, hs1⟩ : ∃ s, s = Pt.kn1.2 := ⟨_, rfl⟩
  obtain ⟨s2, hs2⟩ : ∃ s, s = Pt.kn2.2 := ⟨_, rfl⟩
  obtain ⟨s3, hs3⟩ : ∃ s, s = Pt.kn3.2 := ⟨_, rfl⟩
  obtain ⟨s4, hs4⟩ : ∃ s, s = Pt.kn4.2 := ⟨_, rfl⟩
  obtain ⟨s5, hs5⟩ : ∃ s, s = Pt.kn5.2 := ⟨_, rfl⟩
  obtain ⟨x5, hx5⟩ : ∃ s, s = Pt.kn5.1.1 := ⟨_, rfl⟩
  obtain ⟨s6, hs6⟩ : ∃ s, s = Pt.kn6.2 := ⟨_, rfl⟩
  obtain ⟨s7, hs7⟩ : ∃ s, s = Pt.kn7.2 := ⟨_, rfl⟩
  obtain ⟨x7, hx7⟩ : ∃ s, s = Pt.kn7.1.1 := ⟨_, rfl⟩
  obtain ⟨s8, hs8⟩ : ∃ s, s = Pt.kn8.2 := ⟨_, rfl⟩
  obtain ⟨s9, hs9⟩ : ∃ s, s = Pt.kn9.2 := ⟨_, rfl⟩
  obtain ⟨r9, hr9⟩ : ∃ s, s = Pt.kn9.1 := ⟨_, rfl⟩
  obtain ⟨s10, hs10⟩ : ∃ s, s = Pt.kn10.2 := ⟨_, rfl⟩
  obtain ⟨s11, hs11⟩ : ∃ s, s = Pt.kn11.2 := ⟨_, rfl⟩
  obtain ⟨x11, hx11⟩ : ∃ s, s = Pt.kn11.1.1 := ⟨_, rfl⟩
  obtain ⟨s12, hs12⟩ : ∃ s, s = Pt.kn12.2 := ⟨_, rfl⟩
  obtain ⟨s13, hs13⟩ : ∃ s, s = Pt.kn13.2 := ⟨_, rfl⟩
  obtain ⟨r13, hr13⟩ : ∃ s, s = Pt.kn13.1 := ⟨_, rfl⟩
  obtain ⟨s14, hs14⟩ : ∃ s, s = Pt.kn14.2 := ⟨_, rfl⟩
  obtain ⟨x14, hx14⟩ : ∃ s, s = Pt.kn14.1.1 := ⟨_, rfl⟩
  obtain ⟨s15, hs15⟩ : ∃ s, s = Pt.kn15.2 := ⟨_, rfl⟩
  obtain ⟨r15, hr15⟩ : ∃ s, s = Pt.kn15.1 := ⟨_, rfl⟩
  obtain ⟨s16, hs16⟩ : ∃ s, s = Pt.kn16.2 := ⟨_, rfl⟩
  obtain ⟨b1, hb1⟩ : ∃ s, s = Pt.kn1.1.2 := ⟨_, rfl⟩
  obtain ⟨b2, hb2⟩ : ∃ s, s = Pt.kn2.1.2 := ⟨_, rfl⟩
  obtain ⟨b4, hb4⟩ : ∃ s, s = Pt.kn4.1.2 := ⟨_, rfl⟩
  obtain ⟨b6, hb6⟩ : ∃ s, s = Pt.kn6.1.2 := ⟨_, rfl⟩
  obtain ⟨a8, ha8⟩ : ∃ s, s = Pt.kn8.1.1 := ⟨_, rfl⟩
  obtain ⟨b8, hb8⟩ : ∃ s, s = Pt.kn8.1.2 := ⟨_, rfl⟩
  obtain ⟨b10, hb10⟩ : ∃ s, s = Pt.kn10.1.2 := ⟨_, rfl⟩
  obtain ⟨b11, hb11⟩ : ∃ s, s = Pt.kn11.1.2 := ⟨_, rfl⟩
  obtain ⟨b12, hb12⟩ : ∃ s, s = Pt.kn12.1.2 := ⟨_, rfl⟩
  obtain ⟨b14, hb14⟩ : ∃ s, s = Pt.kn14.1.2 := ⟨_, rfl⟩
  obtain ⟨b16, hb16⟩ : ∃ s, s = Pt.kn16.1.2 := ⟨_, rfl⟩
  have HP1 : Hid (Pt.prepare (Pt.new 2) 0 1 [Tq.mk Tq.pA 0] = ((1, b1), s1)) := (show _ = _ by
    rw [hs1, ← Pt.kn1_a, hb1]
    rfl)
  have HP2 : Hid (Pt.prepare (s1) 3 1 [] = ((1, b2), s2)) := (show _ = _ by
    rw [hs1, hs2, ← Pt.kn2_a, hb2]
    rfl)
  have HP3 : Hid (Pt.prepare (s2) 1 1 [Tq.mk Tq.pA 0, Tq.mk Pt.pXY 0] = ((4, (1)), s3)) := (show _ = _ by
    rw [hs2, hs3, ← Pt.kn3_a, ← Pt.kn3_b]
    rfl)
  have HP4 : Hid (Pt.prepare (s3) 1 1 [Tq.mk Pt.pB 0] = ((1, b4), s4)) := (show _ = _ by
    rw [hs3, hs4, ← Pt.kn4_a, hb4]
    rfl)
  have HL5 : Hid (x5.length = 0) := by rw [hx5]; exact Pt.kn5_b
  have HP5 : Hid (Pt.decide_ (s4) 1 true = ((x5, 0), s5)) := (show _ = _ by
    rw [hs4, hs5, hx5, ← Pt.kn5_a]
    rfl)
  have HP6 : Hid (Pt.prepare (s5) 1 1 [Tq.mk Pt.pB 0] = ((1, b6), s6)) := (show _ = _ by
    rw [hs5, hs6, ← Pt.kn6_a, hb6]
    rfl)
  have HP7 : Hid (Pt.decide_ (s6) 1 true = ((x7, 4), s7)) := (show _ = _ by
    rw [hs6, hs7, hx7, ← Pt.kn7_a]
    rfl)
  have HP8 : Hid (Pt.prepare (s7) 2 5 [Tq.mk Pt.pC 1] = ((a8, b8), s8)) := (show _ = _ by
    rw [hs7, hs8, ha8, hb8]
    rfl)
  have HR9 : Hid (r9.err = 12 ∧ r9.at_ = 0) := by rw [hr9]; exact ⟨Pt.kn9_a, Pt.kn9_b⟩
  have HP9 : Hid (Pt.local_ (s8) 1 1 [Tq.mk Pt.pD 0, Tq.mk Pt.pE 0] = (r9, s9)) := (show _ = _ by
    rw [hs8, hs9, hr9]
    rfl)
  have HP10 : Hid (Pt.close (s9) 4 5 = ((12, b10), s10)) := (show _ = _ by
    rw [hs9, hs10, ← Pt.kn10_a, hb10]
    rfl)
  have HP11 : Hid (Pt.decide_ (s10) 2 true = ((x11, b11), s11)) := (show _ = _ by
    rw [hs10, hs11, hx11, hb11]
    rfl)
  have HP12 : Hid (Pt.close (s11) 4 5 = ((0, b12), s12)) := (show _ = _ by
    rw [hs11, hs12, ← Pt.kn12_a, hb12]
    rfl)
  have HR13 : Hid (r13.err = 12 ∧ r13.at_ = -1) := by rw [hr13]; exact ⟨Pt.kn13_a, Pt.kn13_b⟩
  have HP13 : Hid (Pt.local_ (s12) 5 1 [Tq.mk Pt.pF 0] = (r13, s13)) := (show _ = _ by
    rw [hs12, hs13, hr13]
    rfl)
  have HP14 : Hid (Pt.decide_ (s13) 4 true = ((x14, b14), s14)) := (show _ = _ by
    rw [hs13, hs14, hx14, hb14]
    rfl)
  have HR15 : Hid (r15.err = 11 ∧ r15.at_ = -1 ∧ r15.xs.length = 1) := by rw [hr15]; exact ⟨Pt.kn15_a, Pt.kn15_b, Pt.kn15_c⟩
  have HP15 : Hid (Pt.local_ (s14) 5 1 [Tq.mk Pt.pF 0] = (r15, s15)) := (show _ = _ by
    rw [hs14, hs15, hr15]
    rfl)
  have HP16 : Hid (Pt.close (s15) 6 5 = ((11, b16), s16)) := (show _ = _ by
    rw [hs15, hs16, ← Pt.kn16_a, hb16]
    rfl)
  have HW3 : Hid ((Pt.wanted s3 : Int) = 0 ∧ (s3.lk.length : Int) = 2) := by rw [hs3]; exact Pt.kn3_w
  have HE : Hid (decide ((5 : Int) ∈ s16.cl) = true ∧ s16.t.l.length = 0) := by rw [hs16]; exact Pt.kn_end
  clear hs1 hs2 hs3 hs4 hs5 hx5 hs6 hs7 hx7 hs8 hs9 hr9 hs10 hs11 hx11 hs12 hs13 hr13 hs14 hx14 hs15 hr15 hs16 hb1 hb2 hb4 hb6 ha8 hb8 hb10 hb11 hb12 hb14 hb16
  go_enter Tryz.func3, Tryz.ntmps3
  go_wp2_with fail
  refine (awake_any18 HS.out.1 W HS.out.2.1).mono ?_
  rintro e w0 ⟨rfl, hb0⟩
  have H0 : Hid (Below W.heap.size W w0) := hb0
  clear hb0
  go_wp2_with fail
  refine (HS.out.1.new 0 w0).mono ?_
  simp only [show ((0 : Int) < 1 ∨ (500 : Int) < 0) by decide, if_true]
  rintro e v0 ⟨hb, rfl⟩
  have J0 : Hid (Below W.heap.size W v0) := H0.out.trans (hb.mono H0.out.size)
  clear hb H0
  go_wp2_with fail
  refine (mine18_new HS.out.1 2 (by decide) J0.out).mono ?_
  rintro e w1 ⟨q, F1, rfl, hM, hb⟩
  have M1 : Hid (Mine18 LP W w1 q 0 (Pt.new 2) F1 ∧ True) := ⟨hM, trivial⟩
  clear hM hb J0
  unfold dptr
  go_wp2_with fail
  refine (mkL_any18 Tq.pA 0 w1).mono ?_
  rintro e w2 ⟨rfl, hb⟩
  have M2 : Hid (Mine18 LP W w2 q 0 (Pt.new 2) F1 ∧ True) := ⟨M1.out.1.later HS.out.1 hb, trivial⟩
  clear hb M1
  unfold ov Tq.mk
  simp only []
  obtain ⟨g, hg⟩ : ∃ z, z = w2.heap.size := ⟨_, rfl⟩
  have M3 : Hid ((Mine18 LP W (w2.alloc (.cells #[.int .i64 1, .string Tq.pA, .string ⟨#[]⟩, .int .i64 0, .int .i64 0] 30)) q 0 (Pt.new 2) F1 ∧ True) ∧ Om12 (w2.alloc (.cells #[.int .i64 1, .string Tq.pA, .string ⟨#[]⟩, .int .i64 0, .int .i64 0] 30)) F1 (.slice (some ⟨g, 0, none⟩) 1 1) [Tq.mk Tq.pA 0]) := ⟨by
    have hba := (Below.refl _ w2).alloc (Nat.le_refl _) (.cells #[.int .i64 1, .string Tq.pA, .string ⟨#[]⟩, .int .i64 0, .int .i64 0] 30)
    exact ⟨M2.out.1.later HS.out.1 hba, trivial⟩, by rw [hg]; exact Om12.made w2 F1 (M2.out.1.flt HS.out.1) [Tq.mk Tq.pA 0]⟩
  go_wp2_with fail
  rw [← hg]
  clear hg M2
  generalize (w2.alloc (.cells #[.int .i64 1, .string Tq.pA, .string ⟨#[]⟩, .int .i64 0, .int .i64 0] 30)) = w3 at *
  refine (M3.out.1.1.prep HS.out.1 HS.out.2.1 (by decide) 0 1 (.slice (some ⟨g, 0, none⟩) 1 1) [Tq.mk Tq.pA 0] M3.out.2 (fun o ho => by simp only [List.mem_cons, List.not_mem_nil, or_false] at ho; rcases ho with rfl; exact fit_mk (by decide) (by decide)) (by decide) (by unfold I64; decide) (by unfold I64; decide) 1 b1 s1 HP1.out).mono ?_
  rintro e w4 ⟨F4, rfl, hM, hmv⟩
  have M4 : Hid (Mine18 LP W w4 q 1 (s1) F4 ∧ True) := ⟨hM, trivial⟩
  clear hM hmv M3
  go_wp2_with fail
  have HN4 : Hid (Om12 w4 F4 (.slice none 0 0) []) := ⟨⟨_, _, _, rfl, rfl, Nat.le_refl _, fun _ => rfl, fun j o h => by simp at h⟩, fun h => absurd rfl h⟩
  refine (M4.out.1.prep HS.out.1 HS.out.2.1 (by decide) 3 1 (.slice none 0 0) [] HN4.out (fun o ho => by cases ho) (by decide) (by unfold I64; decide) (by unfold I64; decide) 1 b2 s2 HP2.out).mono ?_
  rintro e w5 ⟨F5, rfl, hM, hmv⟩
  have M5 : Hid (Mine18 LP W w5 q 2 (s2) F5 ∧ True) := ⟨hM, trivial⟩
  clear hM hmv M4
  go_wp2_with fail
  refine (mkL_any18 Tq.pA 0 w5).mono ?_
  rintro e w6 ⟨rfl, hb⟩
  have M6 : Hid (Mine18 LP W w6 q 2 (s2) F5 ∧ True) := ⟨M5.out.1.later HS.out.1 hb, trivial⟩
  clear hb M5
  unfold ov Tq.mk
  simp only []
  go_wp2_with fail
  refine (mkL_any18 Pt.pXY 0 w6).mono ?_
  rintro e w7 ⟨rfl, hb⟩
  have M7 : Hid (Mine18 LP W w7 q 2 (s2) F5 ∧ True) := ⟨M6.out.1.later HS.out.1 hb, trivial⟩
  clear hb M6
  unfold ov Tq.mk
  simp only []
  obtain ⟨g, hg⟩ : ∃ z, z = w7.heap.size := ⟨_, rfl⟩
  have M8 : Hid ((Mine18 LP W (w7.alloc (.cells #[.int .i64 1, .string Tq.pA, .string ⟨#[]⟩, .int .i64 0, .int .i64 0, .int .i64 1, .string Pt.pXY, .string ⟨#[]⟩, .int .i64 0, .int .i64 0] 30)) q 2 (s2) F5 ∧ True) ∧ Om12 (w7.alloc (.cells #[.int .i64 1, .string Tq.pA, .string ⟨#[]⟩, .int .i64 0, .int .i64 0, .int .i64 1, .string Pt.pXY, .string ⟨#[]⟩, .int .i64 0, .int .i64 0] 30)) F5 (.slice (some ⟨g, 0, none⟩) 2 2) [Tq.mk Tq.pA 0, Tq.mk Pt.pXY 0]) := ⟨by
    have hba := (Below.refl _ w7).alloc (Nat.le_refl _) (.cells #[.int .i64 1, .string Tq.pA, .string ⟨#[]⟩, .int .i64 0, .int .i64 0, .int .i64 1, .string Pt.pXY, .string ⟨#[]⟩, .int .i64 0, .int .i64 0] 30)
    exact ⟨M7.out.1.later HS.out.1 hba, trivial⟩, by rw [hg]; exact Om12.made w7 F5 (M7.out.1.flt HS.out.1) [Tq.mk Tq.pA 0, Tq.mk Pt.pXY 0]⟩
  go_wp2_with fail
  rw [← hg]
  clear hg M7
  generalize (w7.alloc (.cells #[.int .i64 1, .string Tq.pA, .string ⟨#[]⟩, .int .i64 0, .int .i64 0, .int .i64 1, .string Pt.pXY, .string ⟨#[]⟩, .int .i64 0, .int .i64 0] 30)) = w8 at *
  refine (M8.out.1.1.prep HS.out.1 HS.out.2.1 (by decide) 1 1 (.slice (some ⟨g, 0, none⟩) 2 2) [Tq.mk Tq.pA 0, Tq.mk Pt.pXY 0] M8.out.2 (fit_mks18 (by decide) (by decide)) (by decide) (by unfold I64; decide) (by unfold I64; decide) 4 (1) s3 HP3.out).mono ?_
  rintro e w9 ⟨F9, rfl, hM, hmv⟩
  have M9 : Hid (Mine18 LP W w9 q 3 (s3) F9 ∧ True) := ⟨hM, trivial⟩
  clear hM hmv M8
  go_wp2_with fail
  refine (M9.out.1.wanted HS.out.1 0 HW3.out.1).mono ?_
  rintro e w10 ⟨rfl, hM, hb⟩
  have M10 : Hid (Mine18 LP W w10 q 3 (s3) F9 ∧ True) := ⟨hM, trivial⟩
  clear hM hb M9
  go_wp2_with fail
  refine (M10.out.1.locks HS.out.1 (by decide) 2 HW3.out.2).mono ?_
  rintro e w11 ⟨rfl, hM, hb⟩
  have M11 : Hid (Mine18 LP W w11 q 3 (s3) F9 ∧ True) := ⟨hM, trivial⟩
  clear hM hb M10
  go_wp2_with fail
  refine (mkL_any18 Pt.pB 0 w11).mono ?_
  rintro e w12 ⟨rfl, hb⟩
  have M12 : Hid (Mine18 LP W w12 q 3 (s3) F9 ∧ True) := ⟨M11.out.1.later HS.out.1 hb, trivial⟩
  clear hb M11
  unfold ov Tq.mk
  simp only []
  obtain ⟨g, hg⟩ : ∃ z, z = w12.heap.size := ⟨_, rfl⟩
  have M13 : Hid ((Mine18 LP W (w12.alloc (.cells #[.int .i64 1, .string Pt.pB, .string ⟨#[]⟩, .int .i64 0, .int .i64 0] 30)) q 3 (s3) F9 ∧ True) ∧ Om12 (w12.alloc (.cells #[.int .i64 1, .string Pt.pB, .string ⟨#[]⟩, .int .i64 0, .int .i64 0] 30)) F9 (.slice (some ⟨g, 0, none⟩) 1 1) [Tq.mk Pt.pB 0]) := ⟨by
    have hba := (Below.refl _ w12).alloc (Nat.le_refl _) (.cells #[.int .i64 1, .string Pt.pB, .string ⟨#[]⟩, .int .i64 0, .int .i64 0] 30)
    exact ⟨M12.out.1.later HS.out.1 hba, trivial⟩, by rw [hg]; exact Om12.made w12 F9 (M12.out.1.flt HS.out.1) [Tq.mk Pt.pB 0]⟩
  go_wp2_with fail
  rw [← hg]
  clear hg M12
  generalize (w12.alloc (.cells #[.int .i64 1, .string Pt.pB, .string ⟨#[]⟩, .int .i64 0, .int .i64 0] 30)) = w13 at *
  refine (M13.out.1.1.prep HS.out.1 HS.out.2.1 (by decide) 1 1 (.slice (some ⟨g, 0, none⟩) 1 1) [Tq.mk Pt.pB 0] M13.out.2 (fun o ho => by simp only [List.mem_cons, List.not_mem_nil, or_false] at ho; rcases ho with rfl; exact fit_mk (by decide) (by decide)) (by decide) (by unfold I64; decide) (by unfold I64; decide) 1 b4 s4 HP4.out).mono ?_
  rintro e w14 ⟨F14, rfl, hM, hmv⟩
  have M14 : Hid (Mine18 LP W w14 q 4 (s4) F14 ∧ True) := ⟨hM, trivial⟩
  clear hM hmv M13
  go_wp2_with fail
  refine (M14.out.1.dec HS.out.1 HS.out.2.1 (by decide) 1 true (by unfold I64; decide) x5 0 s5 HP5.out).mono ?_
  rintro e w15 ⟨F15, u, rfl, hrn, hM, hmv⟩
  obtain ⟨da5, dc5, rfl⟩ := hrn.form
  rw [HL5.out]
  have M15 : Hid (Mine18 LP W w15 q 5 (s5) F15 ∧ True) := ⟨hM, trivial⟩
  clear hrn hM hmv M14
  go_wp2_with fail
  refine (mkL_any18 Pt.pB 0 w15).mono ?_
  rintro e w16 ⟨rfl, hb⟩
  have M16 : Hid (Mine18 LP W w16 q 5 (s5) F15 ∧ True) := ⟨M15.out.1.later HS.out.1 hb, trivial⟩
  clear hb M15
  unfold ov Tq.mk
  simp only []
  obtain ⟨g, hg⟩ : ∃ z, z = w16.heap.size := ⟨_, rfl⟩
  have M17 : Hid ((Mine18 LP W (w16.alloc (.cells #[.int .i64 1, .string Pt.pB, .string ⟨#[]⟩, .int .i64 0, .int .i64 0] 30)) q 5 (s5) F15 ∧ True) ∧ Om12 (w16.alloc (.cells #[.int .i64 1, .string Pt.pB, .string ⟨#[]⟩, .int .i64 0, .int .i64 0] 30)) F15 (.slice (some ⟨g, 0, none⟩) 1 1) [Tq.mk Pt.pB 0]) := ⟨by
    have hba := (Below.refl _ w16).alloc (Nat.le_refl _) (.cells #[.int .i64 1, .string Pt.pB, .string ⟨#[]⟩, .int .i64 0, .int .i64 0] 30)
    exact ⟨M16.out.1.later HS.out.1 hba, trivial⟩, by rw [hg]; exact Om12.made w16 F15 (M16.out.1.flt HS.out.1) [Tq.mk Pt.pB 0]⟩
  go_wp2_with fail
  rw [← hg]
  clear hg M16
  generalize (w16.alloc (.cells #[.int .i64 1, .string Pt.pB, .string ⟨#[]⟩, .int .i64 0, .int .i64 0] 30)) = w17 at *
  refine (M17.out.1.1.prep HS.out.1 HS.out.2.1 (by decide) 1 1 (.slice (some ⟨g, 0, none⟩) 1 1) [Tq.mk Pt.pB 0] M17.out.2 (fun o ho => by simp only [List.mem_cons, List.not_mem_nil, or_false] at ho; rcases ho with rfl; exact fit_mk (by decide) (by decide)) (by decide) (by unfold I64; decide) (by unfold I64; decide) 1 b6 s6 HP6.out).mono ?_
  rintro e w18 ⟨F18, rfl, hM, hmv⟩
  have M18 : Hid (Mine18 LP W w18 q 6 (s6) F18 ∧ True) := ⟨hM, trivial⟩
  clear hM hmv M17
  go_wp2_with fail
  refine (M18.out.1.dec HS.out.1 HS.out.2.1 (by decide) 1 true (by unfold I64; decide) x7 4 s7 HP7.out).mono ?_
  rintro e w19 ⟨F19, u, rfl, hrn, hM, hmv⟩
  obtain ⟨da7, dc7, rfl⟩ := hrn.form
  generalize x7.length = dl7
  have M19 : Hid (Mine18 LP W w19 q 7 (s7) F19 ∧ True) := ⟨hM, trivial⟩
  clear hrn hM hmv M18
  go_wp2_with fail
  refine (mkL_any18 Pt.pC 1 w19).mono ?_
  rintro e w20 ⟨rfl, hb⟩
  have M20 : Hid (Mine18 LP W w20 q 7 (s7) F19 ∧ True) := ⟨M19.out.1.later HS.out.1 hb, trivial⟩
  clear hb M19
  unfold ov Tq.mk
  simp only []
  obtain ⟨g, hg⟩ : ∃ z, z = w20.heap.size := ⟨_, rfl⟩
  have M21 : Hid ((Mine18 LP W (w20.alloc (.cells #[.int .i64 1, .string Pt.pC, .string ⟨#[]⟩, .int .i64 0, .int .i64 1] 30)) q 7 (s7) F19 ∧ True) ∧ Om12 (w20.alloc (.cells #[.int .i64 1, .string Pt.pC, .string ⟨#[]⟩, .int .i64 0, .int .i64 1] 30)) F19 (.slice (some ⟨g, 0, none⟩) 1 1) [Tq.mk Pt.pC 1]) := ⟨by
    have hba := (Below.refl _ w20).alloc (Nat.le_refl _) (.cells #[.int .i64 1, .string Pt.pC, .string ⟨#[]⟩, .int .i64 0, .int .i64 1] 30)
    exact ⟨M20.out.1.later HS.out.1 hba, trivial⟩, by rw [hg]; exact Om12.made w20 F19 (M20.out.1.flt HS.out.1) [Tq.mk Pt.pC 1]⟩
  go_wp2_with fail
  rw [← hg]
  clear hg M20
  generalize (w20.alloc (.cells #[.int .i64 1, .string Pt.pC, .string ⟨#[]⟩, .int .i64 0, .int .i64 1] 30)) = w21 at *
  refine (M21.out.1.1.prep HS.out.1 HS.out.2.1 (by decide) 2 5 (.slice (some ⟨g, 0, none⟩) 1 1) [Tq.mk Pt.pC 1] M21.out.2 (fun o ho => by simp only [List.mem_cons, List.not_mem_nil, or_false] at ho; rcases ho with rfl; exact fit_mk (by decide) (by decide)) (by decide) (by unfold I64; decide) (by unfold I64; decide) a8 b8 s8 HP8.out).mono ?_
  rintro e w22 ⟨F22, rfl, hM, hmv⟩
  have M22 : Hid (Mine18 LP W w22 q 8 (s8) F22 ∧ True) := ⟨hM, trivial⟩
  clear hM hmv M21
  go_wp2_with fail
  refine (mkL_any18 Pt.pD 0 w22).mono ?_
  rintro e w23 ⟨rfl, hb⟩
  have M23 : Hid (Mine18 LP W w23 q 8 (s8) F22 ∧ True) := ⟨M22.out.1.later HS.out.1 hb, trivial⟩
  clear hb M22
  unfold ov Tq.mk
  simp only []
  go_wp2_with fail
  refine (mkL_any18 Pt.pE 0 w23).mono ?_
  rintro e w24 ⟨rfl, hb⟩
  have M24 : Hid (Mine18 LP W w24 q 8 (s8) F22 ∧ True) := ⟨M23.out.1.later HS.out.1 hb, trivial⟩
  clear hb M23
  unfold ov Tq.mk
  simp only []
  obtain ⟨g, hg⟩ : ∃ z, z = w24.heap.size := ⟨_, rfl⟩
  have M25 : Hid ((Mine18 LP W (w24.alloc (.cells #[.int .i64 1, .string Pt.pD, .string ⟨#[]⟩, .int .i64 0, .int .i64 0, .int .i64 1, .string Pt.pE, .string ⟨#[]⟩, .int .i64 0, .int .i64 0] 30)) q 8 (s8) F22 ∧ True) ∧ Om12 (w24.alloc (.cells #[.int .i64 1, .string Pt.pD, .string ⟨#[]⟩, .int .i64 0, .int .i64 0, .int .i64 1, .string Pt.pE, .string ⟨#[]⟩, .int .i64 0, .int .i64 0] 30)) F22 (.slice (some ⟨g, 0, none⟩) 2 2) [Tq.mk Pt.pD 0, Tq.mk Pt.pE 0]) := ⟨by
    have hba := (Below.refl _ w24).alloc (Nat.le_refl _) (.cells #[.int .i64 1, .string Pt.pD, .string ⟨#[]⟩, .int .i64 0, .int .i64 0, .int .i64 1, .string Pt.pE, .string ⟨#[]⟩, .int .i64 0, .int .i64 0] 30)
    exact ⟨M24.out.1.later HS.out.1 hba, trivial⟩, by rw [hg]; exact Om12.made w24 F22 (M24.out.1.flt HS.out.1) [Tq.mk Pt.pD 0, Tq.mk Pt.pE 0]⟩
  go_wp2_with fail
  rw [← hg]
  clear hg M24
  generalize (w24.alloc (.cells #[.int .i64 1, .string Pt.pD, .string ⟨#[]⟩, .int .i64 0, .int .i64 0, .int .i64 1, .string Pt.pE, .string ⟨#[]⟩, .int .i64 0, .int .i64 0] 30)) = w25 at *
  refine (M25.out.1.1.loc HS.out.1 HS.out.2.1 (by decide) 1 1 (.slice (some ⟨g, 0, none⟩) 2 2) [Tq.mk Pt.pD 0, Tq.mk Pt.pE 0] M25.out.2 (fit_mks18 (by decide) (by decide)) (by decide) (by unfold I64; decide) r9 s9 HP9.out).mono ?_
  rintro e w26 ⟨F26, u, rfl, hrn, hM, hmv⟩
  have hns := hrn
  obtain ⟨ua9, un9, uc9, rfl, hj1, hj2⟩ := hns
  obtain ⟨q9, hq⟩ : ∃ z, z = w26.heap.size := ⟨_, rfl⟩
  have M27 : Hid (Mine18 LP W (w26.alloc (.cells #[.int .i64 r9.num, .int .i64 r9.zxid, .int .i64 r9.err, .int .i64 r9.at_, .slice ua9 un9 uc9] 37)) q 9 (s9) F26 ∧ Rb12 (w26.alloc (.cells #[.int .i64 r9.num, .int .i64 r9.zxid, .int .i64 r9.err, .int .i64 r9.at_, .slice ua9 un9 uc9] 37)) F26 w25.heap.size q9 r9 (.slice ua9 un9 uc9) ∧ True) := by
    have hba := (Below.refl _ w26).alloc (Nat.le_refl _) (.cells #[.int .i64 r9.num, .int .i64 r9.zxid, .int .i64 r9.err, .int .i64 r9.at_, .slice ua9 un9 uc9] 37)
    exact ⟨hM.later HS.out.1 hba, by rw [hq]; exact Rb12.made (fun k hk => hM.flt HS.out.1 k hk) hrn, trivial⟩
  clear hrn hM hmv hj1 hj2 M25
  unfold rpv
  go_upto_region 16 with fail
  rw [← hq]
  clear hq
  generalize (w26.alloc (.cells #[.int .i64 r9.num, .int .i64 r9.zxid, .int .i64 r9.err, .int .i64 r9.at_, .slice ua9 un9 uc9] 37)) = w27 at *
  go_wp2_with fail
  refine (M27.out.1.clo HS.out.1 HS.out.2.1 (by decide) 4 5 (by unfold I64; decide) (by unfold I64; decide) 12 b10 s10 HP10.out).mono ?_
  rintro e w28 ⟨F28, rfl, hM, hmv⟩
  have M28 : Hid (Mine18 LP W w28 q 10 (s10) F28 ∧ Rb12 w28 F28 w25.heap.size q9 r9 (.slice ua9 un9 uc9) ∧ True) := ⟨hM, M27.out.2.1.moved hmv, trivial⟩
  clear hM hmv M27
  go_wp2_with fail
  refine (M28.out.1.dec HS.out.1 HS.out.2.1 (by decide) 2 true (by unfold I64; decide) x11 b11 s11 HP11.out).mono ?_
  rintro e w29 ⟨F29, u, rfl, hrn, hM, hmv⟩
  obtain ⟨da11, dc11, rfl⟩ := hrn.form
  generalize x11.length = dl11
  have M29 : Hid (Mine18 LP W w29 q 11 (s11) F29 ∧ Rb12 w29 F29 w25.heap.size q9 r9 (.slice ua9 un9 uc9) ∧ True) := ⟨hM, M28.out.2.1.moved hmv, trivial⟩
  clear hrn hM hmv M28
  go_wp2_with fail
  refine (M29.out.1.clo HS.out.1 HS.out.2.1 (by decide) 4 5 (by unfold I64; decide) (by unfold I64; decide) 0 b12 s12 HP12.out).mono ?_
  rintro e w30 ⟨F30, rfl, hM, hmv⟩
  have M30 : Hid (Mine18 LP W w30 q 12 (s12) F30 ∧ Rb12 w30 F30 w25.heap.size q9 r9 (.slice ua9 un9 uc9) ∧ True) := ⟨hM, M29.out.2.1.moved hmv, trivial⟩
  clear hM hmv M29
  go_wp2_with fail
  refine (mkL_any18 Pt.pF 0 w30).mono ?_
  rintro e w31 ⟨rfl, hb⟩
  have M31 : Hid (Mine18 LP W w31 q 12 (s12) F30 ∧ Rb12 w31 F30 w25.heap.size q9 r9 (.slice ua9 un9 uc9) ∧ True) := ⟨M30.out.1.later HS.out.1 hb, M30.out.2.1.later hb, trivial⟩
  clear hb M30
  unfold ov Tq.mk
  simp only []
  obtain ⟨g, hg⟩ : ∃ z, z = w31.heap.size := ⟨_, rfl⟩
  have M32 : Hid ((Mine18 LP W (w31.alloc (.cells #[.int .i64 1, .string Pt.pF, .string ⟨#[]⟩, .int .i64 0, .int .i64 0] 30)) q 12 (s12) F30 ∧ Rb12 (w31.alloc (.cells #[.int .i64 1, .string Pt.pF, .string ⟨#[]⟩, .int .i64 0, .int .i64 0] 30)) F30 w25.heap.size q9 r9 (.slice ua9 un9 uc9) ∧ True) ∧ Om12 (w31.alloc (.cells #[.int .i64 1, .string Pt.pF, .string ⟨#[]⟩, .int .i64 0, .int .i64 0] 30)) F30 (.slice (some ⟨g, 0, none⟩) 1 1) [Tq.mk Pt.pF 0]) := ⟨by
    have hba := (Below.refl _ w31).alloc (Nat.le_refl _) (.cells #[.int .i64 1, .string Pt.pF, .string ⟨#[]⟩, .int .i64 0, .int .i64 0] 30)
    exact ⟨M31.out.1.later HS.out.1 hba, M31.out.2.1.later hba, trivial⟩, by rw [hg]; exact Om12.made w31 F30 (M31.out.1.flt HS.out.1) [Tq.mk Pt.pF 0]⟩
  go_wp2_with fail
  rw [← hg]
  clear hg M31
  generalize (w31.alloc (.cells #[.int .i64 1, .string Pt.pF, .string ⟨#[]⟩, .int .i64 0, .int .i64 0] 30)) = w32 at *
  refine (M32.out.1.1.loc HS.out.1 HS.out.2.1 (by decide) 5 1 (.slice (some ⟨g, 0, none⟩) 1 1) [Tq.mk Pt.pF 0] M32.out.2 (fun o ho => by simp only [List.mem_cons, List.not_mem_nil, or_false] at ho; rcases ho with rfl; exact fit_mk (by decide) (by decide)) (by decide) (by unfold I64; decide) r13 s13 HP13.out).mono ?_
  rintro e w33 ⟨F33, u, rfl, hrn, hM, hmv⟩
  have hns := hrn
  obtain ⟨ua13, un13, uc13, rfl, hj1, hj2⟩ := hns
  obtain ⟨q13, hq⟩ : ∃ z, z = w33.heap.size := ⟨_, rfl⟩
  have M34 : Hid (Mine18 LP W (w33.alloc (.cells #[.int .i64 r13.num, .int .i64 r13.zxid, .int .i64 r13.err, .int .i64 r13.at_, .slice ua13 un13 uc13] 37)) q 13 (s13) F33 ∧ Rb12 (w33.alloc (.cells #[.int .i64 r13.num, .int .i64 r13.zxid, .int .i64 r13.err, .int .i64 r13.at_, .slice ua13 un13 uc13] 37)) F33 w25.heap.size q9 r9 (.slice ua9 un9 uc9) ∧ Rb12 (w33.alloc (.cells #[.int .i64 r13.num, .int .i64 r13.zxid, .int .i64 r13.err, .int .i64 r13.at_, .slice ua13 un13 uc13] 37)) F33 w32.heap.size q13 r13 (.slice ua13 un13 uc13) ∧ True) := by
    have hba := (Below.refl _ w33).alloc (Nat.le_refl _) (.cells #[.int .i64 r13.num, .int .i64 r13.zxid, .int .i64 r13.err, .int .i64 r13.at_, .slice ua13 un13 uc13] 37)
    exact ⟨hM.later HS.out.1 hba, (M32.out.1.2.1.moved hmv).later hba, by rw [hq]; exact Rb12.made (fun k hk => hM.flt HS.out.1 k hk) hrn, trivial⟩
  clear hrn hM hmv hj1 hj2 M32
  unfold rpv
  go_upto_region 20 with fail
  rw [← hq]
  clear hq
  generalize (w33.alloc (.cells #[.int .i64 r13.num, .int .i64 r13.zxid, .int .i64 r13.err, .int .i64 r13.at_, .slice ua13 un13 uc13] 37)) = w34 at *
  go_wp2_with fail
  refine (M34.out.1.dec HS.out.1 HS.out.2.1 (by decide) 4 true (by unfold I64; decide) x14 b14 s14 HP14.out).mono ?_
  rintro e w35 ⟨F35, u, rfl, hrn, hM, hmv⟩
  obtain ⟨da14, dc14, rfl⟩ := hrn.form
  generalize x14.length = dl14
  have M35 : Hid (Mine18 LP W w35 q 14 (s14) F35 ∧ Rb12 w35 F35 w25.heap.size q9 r9 (.slice ua9 un9 uc9) ∧ Rb12 w35 F35 w32.heap.size q13 r13 (.slice ua13 un13 uc13) ∧ True) := ⟨hM, M34.out.2.1.moved hmv, M34.out.2.2.1.moved hmv, trivial⟩
  clear hrn hM hmv M34
  go_wp2_with fail
  refine (mkL_any18 Pt.pF 0 w35).mono ?_
  rintro e w36 ⟨rfl, hb⟩
  have M36 : Hid (Mine18 LP W w36 q 14 (s14) F35 ∧ Rb12 w36 F35 w25.heap.size q9 r9 (.slice ua9 un9 uc9) ∧ Rb12 w36 F35 w32.heap.size q13 r13 (.slice ua13 un13 uc13) ∧ True) := ⟨M35.out.1.later HS.out.1 hb, M35.out.2.1.later hb, M35.out.2.2.1.later hb, trivial⟩
  clear hb M35
  unfold ov Tq.mk
  simp only []
  obtain ⟨g, hg⟩ : ∃ z, z = w36.heap.size := ⟨_, rfl⟩
  have M37 : Hid ((Mine18 LP W (w36.alloc (.cells #[.int .i64 1, .string Pt.pF, .string ⟨#[]⟩, .int .i64 0, .int .i64 0] 30)) q 14 (s14) F35 ∧ Rb12 (w36.alloc (.cells #[.int .i64 1, .string Pt.pF, .string ⟨#[]⟩, .int .i64 0, .int .i64 0] 30)) F35 w25.heap.size q9 r9 (.slice ua9 un9 uc9) ∧ Rb12 (w36.alloc (.cells #[.int .i64 1, .string Pt.pF, .string ⟨#[]⟩, .int .i64 0, .int .i64 0] 30)) F35 w32.heap.size q13 r13 (.slice ua13 un13 uc13) ∧ True) ∧ Om12 (w36.alloc (.cells #[.int .i64 1, .string Pt.pF, .string ⟨#[]⟩, .int .i64 0, .int .i64 0] 30)) F35 (.slice (some ⟨g, 0, none⟩) 1 1) [Tq.mk Pt.pF 0]) := ⟨by
    have hba := (Below.refl _ w36).alloc (Nat.le_refl _) (.cells #[.int .i64 1, .string Pt.pF, .string ⟨#[]⟩, .int .i64 0, .int .i64 0] 30)
    exact ⟨M36.out.1.later HS.out.1 hba, M36.out.2.1.later hba, M36.out.2.2.1.later hba, trivial⟩, by rw [hg]; exact Om12.made w36 F35 (M36.out.1.flt HS.out.1) [Tq.mk Pt.pF 0]⟩
  go_wp2_with fail
  rw [← hg]
  clear hg M36
  generalize (w36.alloc (.cells #[.int .i64 1, .string Pt.pF, .string ⟨#[]⟩, .int .i64 0, .int .i64 0] 30)) = w37 at *
  refine (M37.out.1.1.loc HS.out.1 HS.out.2.1 (by decide) 5 1 (.slice (some ⟨g, 0, none⟩) 1 1) [Tq.mk Pt.pF 0] M37.out.2 (fun o ho => by simp only [List.mem_cons, List.not_mem_nil, or_false] at ho; rcases ho with rfl; exact fit_mk (by decide) (by decide)) (by decide) (by unfold I64; decide) r15 s15 HP15.out).mono ?_
  rintro e w38 ⟨F38, u, rfl, hrn, hM, hmv⟩
  have hns := hrn
  obtain ⟨ua15, un15, uc15, rfl, hj1, hj2⟩ := hns
  obtain ⟨q15, hq⟩ : ∃ z, z = w38.heap.size := ⟨_, rfl⟩
  have M39 : Hid (Mine18 LP W (w38.alloc (.cells #[.int .i64 r15.num, .int .i64 r15.zxid, .int .i64 r15.err, .int .i64 r15.at_, .slice ua15 un15 uc15] 37)) q 15 (s15) F38 ∧ Rb12 (w38.alloc (.cells #[.int .i64 r15.num, .int .i64 r15.zxid, .int .i64 r15.err, .int .i64 r15.at_, .slice ua15 un15 uc15] 37)) F38 w25.heap.size q9 r9 (.slice ua9 un9 uc9) ∧ Rb12 (w38.alloc (.cells #[.int .i64 r15.num, .int .i64 r15.zxid, .int .i64 r15.err, .int .i64 r15.at_, .slice ua15 un15 uc15] 37)) F38 w32.heap.size q13 r13 (.slice ua13 un13 uc13) ∧ Rb12 (w38.alloc (.cells #[.int .i64 r15.num, .int .i64 r15.zxid, .int .i64 r15.err, .int .i64 r15.at_, .slice ua15 un15 uc15] 37)) F38 w37.heap.size q15 r15 (.slice ua15 un15 uc15) ∧ True) := by
    have hba := (Below.refl _ w38).alloc (Nat.le_refl _) (.cells #[.int .i64 r15.num, .int .i64 r15.zxid, .int .i64 r15.err, .int .i64 r15.at_, .slice ua15 un15 uc15] 37)
    exact ⟨hM.later HS.out.1 hba, (M37.out.1.2.1.moved hmv).later hba, (M37.out.1.2.2.1.moved hmv).later hba, by rw [hq]; exact Rb12.made (fun k hk => hM.flt HS.out.1 k hk) hrn, trivial⟩
  clear hrn hM hmv hj1 hj2 M37
  unfold rpv
  go_upto_region 22 with fail
  rw [← hq]
  clear hq
  generalize (w38.alloc (.cells #[.int .i64 r15.num, .int .i64 r15.zxid, .int .i64 r15.err, .int .i64 r15.at_, .slice ua15 un15 uc15] 37)) = w39 at *
  go_wp2_with fail
  refine (M39.out.1.clo HS.out.1 HS.out.2.1 (by decide) 6 5 (by unfold I64; decide) (by unfold I64; decide) 11 b16 s16 HP16.out).mono ?_
  rintro e w40 ⟨F40, rfl, hM, hmv⟩
  have M40 : Hid (Mine18 LP W w40 q 16 (s16) F40 ∧ Rb12 w40 F40 w25.heap.size q9 r9 (.slice ua9 un9 uc9) ∧ Rb12 w40 F40 w32.heap.size q13 r13 (.slice ua13 un13 uc13) ∧ Rb12 w40 F40 w37.heap.size q15 r15 (.slice ua15 un15 uc15) ∧ True) := ⟨hM, M39.out.2.1.moved hmv, M39.out.2.2.1.moved hmv, M39.out.2.2.2.1.moved hmv, trivial⟩
  clear hM hmv M39
  have c02 : w40.cell? ⟨q9, 2, none⟩ = some (.int .i64 12) := by rw [← HR9.out.1]; exact M40.out.2.1.blk.cb.cell 2
  have c03 : w40.cell? ⟨q9, 3, none⟩ = some (.int .i64 0) := by rw [← HR9.out.2]; exact M40.out.2.1.blk.cb.cell 3
  have c12 : w40.cell? ⟨q13, 2, none⟩ = some (.int .i64 12) := by rw [← HR13.out.1]; exact M40.out.2.2.1.blk.cb.cell 2
  have c13 : w40.cell? ⟨q13, 3, none⟩ = some (.int .i64 (-1)) := by rw [← HR13.out.2]; exact M40.out.2.2.1.blk.cb.cell 3
  have c22 : w40.cell? ⟨q15, 2, none⟩ = some (.int .i64 11) := by rw [← HR15.out.1]; exact M40.out.2.2.2.1.blk.cb.cell 2
  have c23 : w40.cell? ⟨q15, 3, none⟩ = some (.int .i64 (-1)) := by rw [← HR15.out.2.1]; exact M40.out.2.2.2.1.blk.cb.cell 3
  have en : un15 = 1 := by
    obtain ⟨a, c, e⟩ := M40.out.2.2.2.1.res.form
    obtain ⟨_, e2, _⟩ := Value.slice.inj e
    rw [e2, HR15.out.2.2]
  subst en
  have c24 : w40.cell? ⟨q15, 4, none⟩ = some (.slice ua15 1 uc15) := M40.out.2.2.2.1.blk.cb.cell 4
  go_wp2_with fail
  refine (M40.out.1.closed HS.out.1 5 (by unfold I64; decide) true HE.out.1).mono ?_
  rintro e v1 ⟨rfl, hM, hb⟩
  have N1 : Hid (Mine18 LP W v1 q 16 s16 F40) := hM
  clear hM hb M40 c02 c03 c12 c13 c22 c23 c24
  go_wp2_with fail
  refine (N1.out.tree HS.out.1).mono ?_
  rintro e v2 ⟨q2, G2, rfl, hT, hlo, hM, hb⟩
  have N2 : Hid (Below W.heap.size W v2 ∧ LT v2 q2 s16.t G2) := ⟨hM.below, hT⟩
  have hsz : W.heap.size ≤ v2.heap.size := hM.below.size
  have HSZ : Hid (W.heap.size ≤ v2.heap.size) := hsz
  clear hT hlo hM hb hsz N1
  unfold dptr
  go_wp2_with fail
  refine (HS.out.2.2.len q2 s16.t G2 v2 N2.out.2).mono ?_
  rw [HE.out.2]
  rintro e v3 ⟨rfl, hb⟩
  have N3 : Hid (Below W.heap.size W v3) := N2.out.1.trans (hb.mono HSZ.out)
  clear hb N2
  go_wp2
  go_ret
  exact ⟨rfl, N3.out⟩
end Go.Proofs.YtboejbjobjhajaaGreatDoor
