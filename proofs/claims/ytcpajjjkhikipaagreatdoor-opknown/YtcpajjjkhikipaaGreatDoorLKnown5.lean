/- The walk of the statement OpKnown, over what op's calls answer: it answers true. -/
import Derived.Test.YtcpajjjkhikipaaGreatDoorLTops
import Derived.Test.YtcpajjjkhikipaaGreatDoorLibV
namespace Go.Proofs.YtcpajjjkhikipaaGreatDoor
open Go.RowKit

def k2 : O := ⟨8, ⟨#[47, 97]⟩, ⟨#[]⟩, 0, 0⟩
theorem good_k2 : Oq.good k2 = 1 := by decide +kernel
theorem fit_k2 : Fit k2 := ⟨by decide, by decide, by decide, by decide, by decide⟩
def k4 : O := ⟨5, ⟨#[47, 97]⟩, ⟨#[]⟩, -1, 0⟩
theorem good_k4 : Oq.good k4 = 1 := by decide +kernel
theorem fit_k4 : Fit k4 := ⟨by decide, by decide, by decide, by decide, by decide⟩
def k5 : O := ⟨2, ⟨#[47, 97]⟩, ⟨#[120]⟩, 0, 0⟩
theorem good_k5 : Oq.good k5 = 1 := by decide +kernel
theorem fit_k5 : Fit k5 := ⟨by decide, by decide, by decide, by decide, by decide⟩
def k6 : O := ⟨3, ⟨#[47, 97]⟩, ⟨#[]⟩, 0, 1⟩
theorem good_k6 : Oq.good k6 = 1 := by decide +kernel
theorem fit_k6 : Fit k6 := ⟨by decide, by decide, by decide, by decide, by decide⟩
def k7 : O := ⟨1, ⟨#[47, 97, 47, 98]⟩, ⟨#[]⟩, 0, 3⟩
theorem good_k7 : Oq.good k7 = 0 := by decide +kernel
theorem fit_k7 : Fit k7 := ⟨by decide, by decide, by decide, by decide, by decide⟩
def kg : O := ⟨5, ⟨#[47, 97]⟩, ⟨#[]⟩, 0, 0⟩
def kc : O := ⟨4, ⟨#[47, 98, 47, 99]⟩, ⟨#[]⟩, 3, 0⟩
def kz : O := ⟨0, ⟨#[]⟩, ⟨#[]⟩, 0, 0⟩
theorem fit_kg : Fit kg := ⟨by decide, by decide, by decide, by decide, by decide⟩
theorem fit_kc : Fit kc := ⟨by decide, by decide, by decide, by decide, by decide⟩
theorem fit_kz : Fit kz := ⟨by decide, by decide, by decide, by decide, by decide⟩
theorem fit_big (d : ByteArray) (h : d.size ≤ maxLen) : Fit ⟨3, ⟨#[47, 97]⟩, d, 0, 0⟩ := ⟨fit_k6.kind, fit_k6.path, h, fit_k6.ver, fit_k2.flags⟩
theorem may_none : Oq.may 1 1 [] = 1 := by decide +kernel
theorem may_two : Oq.may 1 1 [kg, kc] = 1 := by decide +kernel
theorem may_many : Oq.may 1 1 (List.replicate 17 kz) = 2 := by decide +kernel
theorem writes_kc : Oq.writes [kc] = false := by decide +kernel
theorem put_none : Oq.put 0 0 [] = [] := by decide +kernel
theorem head_big : Oq.headB ⟨3, ⟨#[47, 97]⟩, ⟨#[]⟩, 0, 0⟩ = false := by decide +kernel
theorem good_big (d : ByteArray) (h : d.size = 1001) : Oq.good ⟨3, ⟨#[47, 97]⟩, d, 0, 0⟩ = 2 := Oq.good_long head_big (by show 1000 < d.size; rw [h]; decide)

theorem tops_kc {l : List (List UInt8)} (h : Ts.Tops [kc, kg, kc] l) : l = [[97], [98]] := by
  refine Ts.rises_eq h.1 (b := [[97], [98]]) (by unfold Ts.Rises; decide +kernel) (fun x => ?_)
  rw [h.2 x]
  have e1 : Pl.top kc.path.data.toList = [98] := by decide +kernel
  have e2 : Pl.top kg.path.data.toList = [97] := by decide +kernel
  constructor
  · rintro ⟨_, o, ho, rfl⟩
    simp only [List.mem_cons, List.not_mem_nil, or_false] at ho
    rcases ho with rfl | rfl | rfl
    · rw [e1]; simp
    · rw [e2]; simp
    · rw [e1]; simp
  · intro hx
    simp only [List.mem_cons, List.not_mem_nil, or_false] at hx
    rcases hx with rfl | rfl
    · exact ⟨by simp, kg, by simp, e2⟩
    · exact ⟨by simp, kc, by simp, e1⟩

theorem two_texts {ts : List ByteArray} (h : ts.map (·.data.toList) = [[97], [98]]) : ts = [⟨#[97]⟩, ⟨#[98]⟩] := by
  have hl : ts.length = 2 := by
    have := congrArg List.length h
    simpa using this
  match ts, hl with
  | [a, b], _ =>
    simp only [List.map_cons, List.map_nil, List.cons.injEq, and_true] at h
    rw [Oq.bytes_ext (a := a) (b := ⟨#[97]⟩) h.1, Oq.bytes_ext (a := b) (b := ⟨#[98]⟩) h.2]

theorem Ol.nil (w : World) : Ol w (.slice none 0 0) [] := ⟨none, 0, 0, rfl, rfl, Nat.le_refl _, fun _ => rfl, fun j o h => by simp at h⟩

theorem Ol.lit (w : World) (os : List O) (t : TypeId) : Ol (w.alloc (.cells (os.flatMap oc).toArray t)) (.slice (some ⟨w.heap.size, 0, none⟩) os.length os.length) os := by
  refine ⟨_, os.length, os.length, rfl, rfl, Nat.le_refl _, fun e => (by cases e), fun j x hx => ⟨w.heap.size, 0, rfl, fun i u hu => ?_⟩⟩
  have hi : i < 5 := (List.getElem?_eq_some_iff.1 hu).1
  rw [Nat.zero_add]
  refine cell?_alloc_at _ _ _ _ _ _ ?_
  rw [List.getElem?_toArray, flat_get]
  have e1 : (j * 5 + i) / 5 = j := by omega
  have e2 : (j * 5 + i) % 5 = i := by omega
  rw [e1, e2, hx]
  exact hu

theorem Ss.two (w : World) (a b : ByteArray) (t : TypeId) : Ss (w.alloc (.cells #[.string a, .string b] t)) (.slice (some ⟨w.heap.size, 0, none⟩) 2 2) [a, b] := by
  refine ⟨_, 2, 2, rfl, rfl, fun j s hs => ⟨w.heap.size, 0, rfl, ?_⟩⟩
  rw [Nat.zero_add]
  match j, hs with
  | 0, hs => simp at hs; subst hs; exact cell?_alloc_at _ _ _ _ _ _ rfl
  | 1, hs => simp at hs; subst hs; exact cell?_alloc_at _ _ _ _ _ _ rfl
  | (j + 2), hs => simp at hs

theorem made17 : (madeCells (Value.agg #[.int .i64 0, .string ⟨#[]⟩, .string ⟨#[]⟩, .int .i64 0, .int .i64 0]).cells (17 * 5)).toList = (List.replicate 17 kz).flatMap oc := by kernel_rfl

set_option maxRecDepth 20000 in
set_option maxHeartbeats 4000000 in
theorem known_any5 (hs : Specs) (ht : TopsSpec) (w : World) (hS : Pa.Std w) : Calls Tryz.prog 3 #[] w fun e w' => e = .returned (.bool true) ∧ Below w.heap.size w w' := by
  have HS : Hid Specs := hs
  have HTS : Hid TopsSpec := ht
  have HW : Hid (Pa.Std w) := hS
  clear hs ht hS
  obtain ⟨N, hN⟩ : ∃ N : Nat, (1001 : Int) = (N : Int) := ⟨1001, by omega⟩
  have HNN : Hid ((1001 : Int) = (N : Int)) := hN
  clear hN
  obtain ⟨M, hM⟩ : ∃ M : Nat, (17 : Int) = (M : Int) := ⟨17, by omega⟩
  have HMM : Hid ((17 : Int) = (M : Int)) := hM
  clear hM
  go_enter Tryz.func3, Tryz.ntmps3
  go_wp2_with fail
  refine (awake_any5 HS.out _ HW.out).mono ?_
  rintro e w1 ⟨rfl, hb⟩
  have HB1 : Hid (Below w.heap.size w w1) := hb
  clear hb
  obtain ⟨qg, hqg⟩ : ∃ q, q = w1.heap.size := ⟨_, rfl⟩
  obtain ⟨qc, hqc⟩ : ∃ q, q = w1.heap.size + 1 := ⟨_, rfl⟩
  have HB2 : Hid (Below w.heap.size w ((w1.alloc (.cells #[.int .i64 5, .string ⟨#[47, 97]⟩, .string ⟨#[]⟩, .int .i64 0, .int .i64 0] 24)).alloc (.cells #[.int .i64 4, .string ⟨#[47, 98, 47, 99]⟩, .string ⟨#[]⟩, .int .i64 3, .int .i64 0] 24))) := (HB1.out.alloc HB1.out.size _).alloc (by simp; have := HB1.out.size; omega) _
  have HX2 : Hid (Box5 ((w1.alloc (.cells #[.int .i64 5, .string ⟨#[47, 97]⟩, .string ⟨#[]⟩, .int .i64 0, .int .i64 0] 24)).alloc (.cells #[.int .i64 4, .string ⟨#[47, 98, 47, 99]⟩, .string ⟨#[]⟩, .int .i64 3, .int .i64 0] 24)) qg kg ∧ Box5 ((w1.alloc (.cells #[.int .i64 5, .string ⟨#[47, 97]⟩, .string ⟨#[]⟩, .int .i64 0, .int .i64 0] 24)).alloc (.cells #[.int .i64 4, .string ⟨#[47, 98, 47, 99]⟩, .string ⟨#[]⟩, .int .i64 3, .int .i64 0] 24)) qc kc) := by
    refine ⟨?_, ?_⟩
    · rw [hqg]
      exact (Box5.made w1 kg _).below ((Below.refl _ _).alloc (Nat.le_refl _) _)
    · have h := Box5.made (w1.alloc (.cells #[.int .i64 5, .string ⟨#[47, 97]⟩, .string ⟨#[]⟩, .int .i64 0, .int .i64 0] 24)) kc 24
      rw [World.size_alloc] at h
      rw [hqc]
      exact h
  go_wp2_with fail
  rw [← hqc, ← hqg]
  clear hqg hqc
  generalize (w1.alloc (.cells #[.int .i64 5, .string ⟨#[47, 97]⟩, .string ⟨#[]⟩, .int .i64 0, .int .i64 0] 24)).alloc (.cells #[.int .i64 4, .string ⟨#[47, 98, 47, 99]⟩, .string ⟨#[]⟩, .int .i64 3, .int .i64 0] 24) = w2 at *
  refine (HS.out.good k2 _ (HW.out.below HB2.out) fit_k2).mono ?_
  rintro e w3 ⟨rfl, hb⟩
  rw [good_k2]
  have HBw3 : Hid (Below w.heap.size w w3) := HB2.out.trans (hb.mono HB2.out.size)
  have HXw3 : Hid (Box5 w3 qg kg ∧ Box5 w3 qc kc) := ⟨HX2.out.1.below hb, HX2.out.2.below hb⟩
  clear hb
  obtain ⟨ib, hib, hz0, hz1, hz2⟩ := info_parts infoByte
  obtain ⟨w4, hrun, ho, hgr⟩ := run_make_full (P := Tryz.prog) w3 w3.heap.size 27 5 ib (.int .u8 0) 1 Tryz.underlying27 hib hz0 hz1 .i64 .i64 N (by rw [hz2]; have := HNN.out; omega) (by unfold maxLen; have := HNN.out; omega) (Nat.le_refl _)
  rw [← HNN.out] at hrun
  have hb : Below w3.heap.size w3 w4 := (Below.refl _ w3).grown hgr (Nat.le_refl _) (fun k hk => by cases hk)
  rw [made_bytes] at ho
  obtain ⟨D, hD⟩ : ∃ D : ByteArray, D = ⟨(List.replicate N (0 : UInt8)).toArray⟩ := ⟨_, rfl⟩
  have HD : Hid (D.size = 1001) := by
    have h : D.size = 1001 := by rw [hD]; simp [ByteArray.size]; have := HNN.out; omega
    exact h
  have hcv : (convert 27 9 (.slice (some ⟨w3.heap.size, 0, none⟩) N N)).run Tryz.prog w4 = .ok (.string D) w4 := by rw [hD]; exact (Bs.own ho).conv
  have HBw4 : Hid (Below w.heap.size w w4) := HBw3.out.trans (hb.mono HBw3.out.size)
  have HXw4 : Hid (Box5 w4 qg kg ∧ Box5 w4 qc kc) := ⟨HXw3.out.1.below hb, HXw3.out.2.below hb⟩
  clear ho hb hD hib hz0 hz1 hz2 hgr
  go_wp2_with fail
  refine (HS.out.good ⟨3, ⟨#[47, 97]⟩, D, 0, 0⟩ _ (HW.out.below HBw4.out) (fit_big D (by rw [HD.out]; decide))).mono ?_
  rintro e w5 ⟨rfl, hb⟩
  rw [good_big D HD.out]
  have HBw5 : Hid (Below w.heap.size w w5) := HBw4.out.trans (hb.mono HBw4.out.size)
  have HXw5 : Hid (Box5 w5 qg kg ∧ Box5 w5 qc kc) := ⟨HXw4.out.1.below hb, HXw4.out.2.below hb⟩
  clear hb hcv hrun
  go_wp2_with fail
  refine (HS.out.good k4 _ (HW.out.below HBw5.out) fit_k4).mono ?_
  rintro e w6 ⟨rfl, hb⟩
  rw [good_k4]
  have HBw6 : Hid (Below w.heap.size w w6) := HBw5.out.trans (hb.mono HBw5.out.size)
  have HXw6 : Hid (Box5 w6 qg kg ∧ Box5 w6 qc kc) := ⟨HXw5.out.1.below hb, HXw5.out.2.below hb⟩
  clear hb
  go_wp2_with fail
  refine (HS.out.good k5 _ (HW.out.below HBw6.out) fit_k5).mono ?_
  rintro e w7 ⟨rfl, hb⟩
  rw [good_k5]
  have HBw7 : Hid (Below w.heap.size w w7) := HBw6.out.trans (hb.mono HBw6.out.size)
  have HXw7 : Hid (Box5 w7 qg kg ∧ Box5 w7 qc kc) := ⟨HXw6.out.1.below hb, HXw6.out.2.below hb⟩
  clear hb
  go_wp2_with fail
  refine (HS.out.good k6 _ (HW.out.below HBw7.out) fit_k6).mono ?_
  rintro e w8 ⟨rfl, hb⟩
  rw [good_k6]
  have HBw8 : Hid (Below w.heap.size w w8) := HBw7.out.trans (hb.mono HBw7.out.size)
  have HXw8 : Hid (Box5 w8 qg kg ∧ Box5 w8 qc kc) := ⟨HXw7.out.1.below hb, HXw7.out.2.below hb⟩
  clear hb
  go_wp2_with fail
  refine (HS.out.good k7 _ (HW.out.below HBw8.out) fit_k7).mono ?_
  rintro e w9 ⟨rfl, hb⟩
  rw [good_k7]
  have HBw9 : Hid (Below w.heap.size w w9) := HBw8.out.trans (hb.mono HBw8.out.size)
  have HXw9 : Hid (Box5 w9 qg kg ∧ Box5 w9 qc kc) := ⟨HXw8.out.1.below hb, HXw8.out.2.below hb⟩
  clear hb
  go_wp2_with fail
  refine (HS.out.may 1 1 _ [] _ (HW.out.below HBw9.out) (Ol.nil _) (by decide) (fun o ho => by cases ho)).mono ?_
  rintro e wa ⟨rfl, hb⟩
  rw [may_none]
  have HBwa : Hid (Below w.heap.size w wa) := HBw9.out.trans (hb.mono HBw9.out.size)
  have HXwa : Hid (Box5 wa qg kg ∧ Box5 wa qc kc) := ⟨HXw9.out.1.below hb, HXw9.out.2.below hb⟩
  clear hb
  obtain ⟨g0, g1, g2, g3, g4⟩ := HXwa.out.1
  obtain ⟨c0, c1, c2, c3, c4⟩ := HXwa.out.2
  have HLb : Hid (Ol (wa.alloc (.cells #[.int .i64 kg.kind, .string kg.path, .string kg.data, .int .i64 kg.ver, .int .i64 kg.flags, .int .i64 kc.kind, .string kc.path, .string kc.data, .int .i64 kc.ver, .int .i64 kc.flags] 24)) (.slice (some ⟨wa.heap.size, 0, none⟩) 2 2) [kg, kc]) := Ol.lit wa [kg, kc] _
  have HAb : Hid (Below wa.heap.size wa (wa.alloc (.cells #[.int .i64 kg.kind, .string kg.path, .string kg.data, .int .i64 kg.ver, .int .i64 kg.flags, .int .i64 kc.kind, .string kc.path, .string kc.data, .int .i64 kc.ver, .int .i64 kc.flags] 24))) := (Below.refl _ wa).alloc (Nat.le_refl _) _
  go_wp2_with fail
  have hb := HAb.out
  obtain ⟨wb, hwb⟩ : ∃ wb, wb = wa.alloc (.cells #[.int .i64 kg.kind, .string kg.path, .string kg.data, .int .i64 kg.ver, .int .i64 kg.flags, .int .i64 kc.kind, .string kc.path, .string kc.data, .int .i64 kc.ver, .int .i64 kc.flags] 24) := ⟨_, rfl⟩
  rw [← hwb] at hb HLb ⊢
  clear hwb HAb
  have HBwb : Hid (Below w.heap.size w wb) := HBwa.out.trans (hb.mono HBwa.out.size)
  have HXwb : Hid (Box5 wb qg kg ∧ Box5 wb qc kc) := ⟨HXwa.out.1.below hb, HXwa.out.2.below hb⟩
  clear hb g0 g1 g2 g3 g4 c0 c1 c2 c3 c4
  refine (HS.out.may 1 1 _ [kg, kc] _ (HW.out.below HBwb.out) HLb.out (by decide) (fun o ho => by simp at ho; rcases ho with rfl | rfl; exact fit_kg; exact fit_kc)).mono ?_
  rintro e wd ⟨rfl, hb⟩
  rw [may_two]
  have HBwd : Hid (Below w.heap.size w wd) := HBwb.out.trans (hb.mono HBwb.out.size)
  have HXwd : Hid (Box5 wd qg kg ∧ Box5 wd qc kc) := ⟨HXwb.out.1.below hb, HXwb.out.2.below hb⟩
  clear hb
  obtain ⟨io, hio, hz0, hz1, hz2⟩ := info_parts infoOp
  obtain ⟨we, hrun, ho, hgr⟩ := run_make_full (P := Tryz.prog) wd wd.heap.size 29 24 io (.agg #[.int .i64 0, .string ⟨#[]⟩, .string ⟨#[]⟩, .int .i64 0, .int .i64 0]) 5 Tryz.underlying29 hio hz0 hz1 .i64 .i64 M (by rw [hz2]; have := HMM.out; omega) (by unfold maxLen; have := HMM.out; omega) (Nat.le_refl _)
  rw [← HMM.out] at hrun
  have hb : Below wd.heap.size wd we := (Below.refl _ wd).grown hgr (Nat.le_refl _) (fun k hk => by cases hk)
  have HM17 : Hid (M = 17) := by
    have h : M = 17 := by have := HMM.out; omega
    exact h
  have HLe : Hid (Ol we (.slice (some ⟨wd.heap.size, 0, none⟩) M M) (List.replicate 17 kz)) := by
    have e17 := HM17.out
    subst e17
    rw [made17] at ho
    exact Ol.own (os := List.replicate 17 kz) ho
  have HBwe : Hid (Below w.heap.size w we) := HBwd.out.trans (hb.mono HBwd.out.size)
  have HXwe : Hid (Box5 we qg kg ∧ Box5 we qc kc) := ⟨HXwd.out.1.below hb, HXwd.out.2.below hb⟩
  clear ho hb hio hz0 hz1 hz2 hgr
  go_wp2_with fail
  refine (HS.out.may 1 1 _ (List.replicate 17 kz) _ (HW.out.below HBwe.out) HLe.out (by decide) (fun o ho => by rw [(List.mem_replicate.1 ho).2]; exact fit_kz)).mono ?_
  rintro e wf ⟨rfl, hb⟩
  rw [may_many]
  clear hrun
  have HBwf : Hid (Below w.heap.size w wf) := HBwe.out.trans (hb.mono HBwe.out.size)
  have HXwf : Hid (Box5 wf qg kg ∧ Box5 wf qc kc) := ⟨HXwe.out.1.below hb, HXwe.out.2.below hb⟩
  clear hb
  obtain ⟨c0, c1, c2, c3, c4⟩ := HXwf.out.2
  have HLg : Hid (Ol (wf.alloc (.cells #[.int .i64 kc.kind, .string kc.path, .string kc.data, .int .i64 kc.ver, .int .i64 kc.flags] 24)) (.slice (some ⟨wf.heap.size, 0, none⟩) 1 1) [kc]) := Ol.lit wf [kc] _
  have HAg : Hid (Below wf.heap.size wf (wf.alloc (.cells #[.int .i64 kc.kind, .string kc.path, .string kc.data, .int .i64 kc.ver, .int .i64 kc.flags] 24))) := (Below.refl _ wf).alloc (Nat.le_refl _) _
  go_wp2_with fail
  have hb := HAg.out
  obtain ⟨wg, hwg⟩ : ∃ wg, wg = wf.alloc (.cells #[.int .i64 kc.kind, .string kc.path, .string kc.data, .int .i64 kc.ver, .int .i64 kc.flags] 24) := ⟨_, rfl⟩
  rw [← hwg] at hb HLg ⊢
  clear hwg HAg
  have HBwg : Hid (Below w.heap.size w wg) := HBwf.out.trans (hb.mono HBwf.out.size)
  have HXwg : Hid (Box5 wg qg kg ∧ Box5 wg qc kc) := ⟨HXwf.out.1.below hb, HXwf.out.2.below hb⟩
  clear hb c0 c1 c2 c3 c4
  refine (HS.out.writes 0 0 _ [kc] _ HLg.out (by decide)).mono ?_
  rintro e wh ⟨rfl, hb⟩
  rw [writes_kc]
  have HBwh : Hid (Below w.heap.size w wh) := HBwg.out.trans (hb.mono HBwg.out.size)
  have HXwh : Hid (Box5 wh qg kg ∧ Box5 wh qc kc) := ⟨HXwg.out.1.below hb, HXwg.out.2.below hb⟩
  clear hb
  go_wp2_with fail
  refine (HS.out.put 0 0 _ [] _ (HW.out.below HBwh.out) (Ol.nil _) (by decide) (fun o ho => by cases ho)).mono ?_
  rintro e wi ⟨vi, rfl, hbs, hb⟩
  rw [put_none] at hbs
  obtain ⟨ai, ni, ci, rfl, hni5, hqi⟩ := hbs
  have hni : ni = 0 := hni5
  clear hni5 hqi
  subst hni
  have HBwi : Hid (Below w.heap.size w wi) := HBwh.out.trans (hb.mono HBwh.out.size)
  have HXwi : Hid (Box5 wi qg kg ∧ Box5 wi qc kc) := ⟨HXwh.out.1.below hb, HXwh.out.2.below hb⟩
  clear hb
  obtain ⟨g0, g1, g2, g3, g4⟩ := HXwi.out.1
  obtain ⟨c0, c1, c2, c3, c4⟩ := HXwi.out.2
  have HLj : Hid (Ol (wi.alloc (.cells #[.int .i64 kc.kind, .string kc.path, .string kc.data, .int .i64 kc.ver, .int .i64 kc.flags, .int .i64 kg.kind, .string kg.path, .string kg.data, .int .i64 kg.ver, .int .i64 kg.flags, .int .i64 kc.kind, .string kc.path, .string kc.data, .int .i64 kc.ver, .int .i64 kc.flags] 24)) (.slice (some ⟨wi.heap.size, 0, none⟩) 3 3) [kc, kg, kc]) := Ol.lit wi [kc, kg, kc] _
  have HAj : Hid (Below wi.heap.size wi (wi.alloc (.cells #[.int .i64 kc.kind, .string kc.path, .string kc.data, .int .i64 kc.ver, .int .i64 kc.flags, .int .i64 kg.kind, .string kg.path, .string kg.data, .int .i64 kg.ver, .int .i64 kg.flags, .int .i64 kc.kind, .string kc.path, .string kc.data, .int .i64 kc.ver, .int .i64 kc.flags] 24))) := (Below.refl _ wi).alloc (Nat.le_refl _) _
  go_wp2_with fail
  have hb := HAj.out
  obtain ⟨wj, hwj⟩ : ∃ wj, wj = wi.alloc (.cells #[.int .i64 kc.kind, .string kc.path, .string kc.data, .int .i64 kc.ver, .int .i64 kc.flags, .int .i64 kg.kind, .string kg.path, .string kg.data, .int .i64 kg.ver, .int .i64 kg.flags, .int .i64 kc.kind, .string kc.path, .string kc.data, .int .i64 kc.ver, .int .i64 kc.flags] 24) := ⟨_, rfl⟩
  rw [← hwj] at hb HLj ⊢
  clear hwj HAj
  have HBwj : Hid (Below w.heap.size w wj) := HBwi.out.trans (hb.mono HBwi.out.size)
  have HXwj : Hid (Box5 wj qg kg ∧ Box5 wj qc kc) := ⟨HXwi.out.1.below hb, HXwi.out.2.below hb⟩
  clear hb g0 g1 g2 g3 g4 c0 c1 c2 c3 c4
  refine (HTS.out _ [kc, kg, kc] _ (HW.out.below HBwj.out) HLj.out (by decide) (fun o ho => by simp at ho; rcases ho with rfl | rfl | rfl; exact fit_kc; exact fit_kg; exact fit_kc)).mono ?_
  rintro e wk ⟨vk, ts, rfl, hss, htops, hb⟩
  have hts : ts = [⟨#[97]⟩, ⟨#[98]⟩] := two_texts (tops_kc htops)
  subst hts
  have HVk : Hid (Ss wk vk [⟨#[97]⟩, ⟨#[98]⟩]) := hss
  have HBwk : Hid (Below w.heap.size w wk) := HBwj.out.trans (hb.mono HBwj.out.size)
  clear hb hss htops
  have HTk : Hid (Ss (wk.alloc (.cells #[.string ⟨#[97]⟩, .string ⟨#[98]⟩] 9)) (.slice (some ⟨wk.heap.size, 0, none⟩) 2 2) [⟨#[97]⟩, ⟨#[98]⟩]) := Ss.two wk _ _ _
  have HAk : Hid (Below wk.heap.size wk (wk.alloc (.cells #[.string ⟨#[97]⟩, .string ⟨#[98]⟩] 9))) := (Below.refl _ wk).alloc (Nat.le_refl _) _
  go_wp2_with fail
  refine (Pw.same_any _ _ [⟨#[97]⟩, ⟨#[98]⟩] [⟨#[97]⟩, ⟨#[98]⟩] _ (HVk.out.below HAk.out) HTk.out (by decide) (by decide)).mono ?_
  rintro e wl ⟨rfl, hb⟩
  have hd : decide (([⟨#[97]⟩, ⟨#[98]⟩] : List ByteArray) = [⟨#[97]⟩, ⟨#[98]⟩]) = true := decide_eq_true rfl
  rw [hd]
  have HBwl : Hid (Below w.heap.size w wl) := (HBwk.out.trans (HAk.out.mono HBwk.out.size)).trans (hb.mono (Nat.le_trans HBwk.out.size HAk.out.size))
  clear hb hd
  go_wp2
  go_ret
  exact ⟨rfl, HBwl.out⟩
end Go.Proofs.YtcpajjjkhikipaaGreatDoor
