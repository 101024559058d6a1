/- The walk of the statement PackReads: it answers true. -/
import Derived.Test.YteloehalobampaaRText
import Derived.Deep.RegionWith
namespace Go.Proofs.Yteloehalobampaa
open Go.RowKit

theorem below_drewN {B : Nat} {w wr : World} (h : Below B w wr) (q : Nat) : Below B w (wr.drewN q) := ⟨h.os, h.tape, h.output, h.size, h.block⟩

theorem Rf.below {w w' : World} {q : Nat} {v : Value} {xs ys : List UInt8} {bad : Bool} (h : Rf w q v xs ys bad) (hb : Below w.heap.size w w') : Rf w' q v xs ys bad := by
  obtain ⟨t, h1, h2, h3⟩ := h.pos
  have hlt : q < w.heap.size := World.block_lt_of_cell? w ⟨q, 1, none⟩ h1
  exact ⟨⟨t, (hb.cell (p := ⟨q, 1, none⟩) hlt).trans h1, h2, h3⟩, (hb.cell (p := ⟨q, 0, none⟩) hlt).trans h.c0, (hb.cell (p := ⟨q, 2, none⟩) hlt).trans h.c2, (hb.frozen (p := ⟨q, 1, none⟩) hlt).trans h.f1, (hb.frozen (p := ⟨q, 2, none⟩) hlt).trans h.f2, h.bs.below hb, h.blk, h.sad, h.few⟩

/-- Both Readers, side by side: they have the same left. -/
structure Two (w wr : World) (q1 q2 : Nat) (vb : Value) (bs ys : List UInt8) (bad : Bool) : Prop where
  rd : Rd wr q1 ys bad
  rf : Rf wr q2 vb bs ys bad
  below : Below w.heap.size w wr

theorem Two.drewN {w wr : World} {q1 q2 : Nat} {vb : Value} {bs ys : List UInt8} {bad : Bool} (h : Two w wr q1 q2 vb bs ys bad) (n : Nat) : Two w (wr.drewN n) q1 q2 vb bs ys bad :=
  ⟨h.rd.below (below_drewN (Below.refl _ wr) n), h.rf.below (below_drewN (Below.refl _ wr) n), below_drewN h.below n⟩

/-- How the two Readers lie: q1 below q2, both new; the bytes lie below both. -/
structure Lie (w : World) (q1 q2 : Nat) (vb : Value) (bs : List UInt8) : Prop where
  lo : w.heap.size ≤ q1
  lt : q1 < q2
  vb : ∀ r, w.heap.size ≤ r → 0 < bs.length → vb.ownBlock ≠ some r

/-- First the one is asked, then the other. -/
theorem two_step {w wr w2 w3 : World} {q1 q2 : Nat} {vb : Value} {bs ys ys' : List UInt8} {bad bad' : Bool} (hl : Lie w q1 q2 vb bs) (h : Two w wr q1 q2 vb bs ys bad) (hr : Rd w2 q1 ys' bad') (hg : wr.grownBy w2 (some q1)) :
    Rf w2 q2 vb bs ys bad ∧ Below w.heap.size w w2 ∧ (Rf w3 q2 vb bs ys' bad' → w2.grownBy w3 (some q2) → Two w w3 q1 q2 vb bs ys' bad') :=
  have h1 := hl.lt
  have h2 := hl.lo
  have hb : Below w.heap.size w w2 := Below.reader h.below hg (Nat.le_refl _) hl.lo
  ⟨h.rf.grown hg (by omega) (hl.vb q1 hl.lo), hb, fun hf hg3 => ⟨hr.grown hg3 hl.lt, hf, Below.reader hb hg3 (Nat.le_refl _) (by omega)⟩⟩

/-- The reference's Reader as it is made. -/
theorem two_new {w w3 : World} {q1 : Nat} {vb : Value} {bs : List UInt8} {t : TypeId} (hl : Lie w q1 w3.heap.size vb bs) (hr : Rd w3 q1 bs false) (hb : Bs w3 vb bs) (hB : Below w.heap.size w w3) (hN : bs.length ≤ 300) :
    Two w (w3.alloc (.cells #[vb, .int .i64 0, .bool false] t)) q1 w3.heap.size vb bs bs false := by
  have hw : Below w3.heap.size w3 (w3.alloc (.cells #[vb, .int .i64 0, .bool false] t)) := (Below.refl _ w3).alloc (Nat.le_refl _) _
  refine ⟨hr.below hw, ⟨⟨0, by simp, Nat.zero_le _, fun _ => by simp⟩, by simp, by simp, ?_, ?_, hb.below hw, fun h => hl.vb _ hB.size h, (fun h => by cases h), by omega⟩, hB.trans (hw.mono hB.size)⟩
  · simp only [World.frozen?, heap_alloc_new]; rfl
  · simp only [World.frozen?, heap_alloc_new]; rfl

set_option maxRecDepth 20000 in
set_option maxHeartbeats 4000000 in
theorem reads_few (vb : Value) (bs : List UInt8) (vl : Value) (zs : List Int) (w : World) (hb : Bs w vb bs) (hz : Bi w vl zs) (hbl : bs.length ≤ 300) (hzl : zs.length ≤ 60) :
    Calls Try.prog 4 #[vb, vl] w fun e w' => e = .returned (.bool true) ∧ Below w.heap.size w w' := by
  have HVB : Hid (Bs w vb bs) := hb
  have HBL : Hid (bs.length ≤ 300) := hbl
  have HVV : Hid (∀ r, w.heap.size ≤ r → 0 < bs.length → vb.ownBlock ≠ some r) := by
    intro r hr h0
    obtain ⟨g, o, n, c, rfl, _, _, hcs⟩ := hb.plain h0
    have h1 := World.block_lt_of_cell? w _ (hcs 0 _ (List.getElem?_eq_getElem h0))
    simp only [Value.ownBlock, ne_eq, Option.some.injEq]
    simp only at h1
    omega
  obtain ⟨ab, nb, cb, rfl, hnb, hslb⟩ := hb
  obtain ⟨az, k, cz, rfl, hk, hcz⟩ := hz
  rw [← hnb] at hbl
  rw [← hk] at hzl
  have HK : Hid (k = zs.length) := hk
  have HCZ : Hid (∀ (j : Nat) z, zs[j]? = some z → ∃ g o, az = some ⟨g, o, none⟩ ∧ w.cell? ⟨g, o + j, none⟩ = some (.int .i64 z)) := hcz
  clear hnb hslb hk hcz
  have t1 : ¬ (300 : Int) < nb := by omega
  have t3 : ¬ (60 : Int) < k := by omega
  go_enter Try.func4, Try.ntmps4
  go_wp2_with fail
  refine (awake_any _).mono ?_
  rintro e w1 ⟨rfl, hb⟩
  have HB1 : Hid (Below w.heap.size w w1) := hb
  clear hb
  go_wp2_with (at_builtin; refine append_copy rfl _ _ rfl (.slice ab nb cb) bs w1 rfl rfl (HVB.out.below HB1.out) (by have := HBL.out; omega) ?_)
  intro v2 w2 hown hb
  have HS2 : Hid (Bs w2 v2 bs) := Bs.own hown
  have HB2 : Hid (Below w.heap.size w w2) := HB1.out.trans (hb.mono HB1.out.size)
  clear hown hb
  go_wp2_with fail
  refine (read_bs v2 _ _ HS2.out (by have := HBL.out; omega)).mono ?_
  rintro e w3 ⟨q1, rfl, hq, hr, hb⟩
  have HR3 : Hid (Rd w3 q1 bs false) := hr
  have HB3 : Hid (Below w.heap.size w w3) := HB2.out.trans (hb.mono HB2.out.size)
  have HL : Hid (Lie w q1 w3.heap.size (.slice ab nb cb) bs) := ⟨Nat.le_trans HB2.out.size hq, hr.lt, HVV.out⟩
  clear hb hr hq
  have HBS3 : Hid (Bs w3 (.slice ab nb cb) bs) := HVB.out.below HB3.out
  obtain ⟨q2, hq2⟩ : ∃ q2, q2 = w3.heap.size := ⟨_, rfl⟩
  have HQ2 : Hid (q2 = w3.heap.size) := hq2
  clear hq2
  go_wp2
  rw [← HQ2.out]
  rw [← HQ2.out] at HL
  go_loopw [7] (fun i wr => ∃ j : Nat, j ≤ k ∧ i = .int .i64 j ∧ ∃ ys bad, Two w wr q1 q2 (.slice ab nb cb) bs ys bad) (fun i _ => k - (intOf i).toNat)
  case atStart =>
    refine ⟨0, Nat.zero_le _, rfl, bs, false, ?_⟩
    rw [HQ2.out] at HL ⊢
    exact two_new HL.out HR3.out HBS3.out HB3.out HBL.out
  case round =>
    obtain ⟨j, hj, rfl, ys, bad, hT⟩ := hrel
    have HT : Hid (Two w wr q1 q2 (.slice ab nb cb) bs ys bad) := hT
    clear hT
    by_cases hlt : j < k
    · obtain ⟨z, hz⟩ : ∃ z, zs[j]? = some z := ⟨zs[j]'(by rw [← HK.out]; exact hlt), List.getElem?_eq_getElem _⟩
      obtain ⟨g, o, rfl, hc⟩ := HCZ.out j z hz
      have hcell : wr.cell? ⟨g, o + j, none⟩ = some (.int .i64 z) := Below.kept HT.out.below hc
      have HG : Hid (g < w.heap.size) := World.block_lt_of_cell? w _ hc
      clear hz hc
      have hlt' : (j : Int) < k := by omega
      have hj0 : (0 : Int) ≤ j := by omega
      have HCW : Hid (∀ (wx wy : World) (r : Nat), q1 ≤ r → wx.cell? ⟨g, o + j, none⟩ = some (.int .i64 z) → wx.grownBy wy (some r) → wy.cell? ⟨g, o + j, none⟩ = some (.int .i64 z)) := fun wx wy r hr hx hg => hg.cell hx (by have h1 := HG.out; have h2 := HL.out.lo; simp; omega)
      obtain ⟨a, ha⟩ : ∃ a, a = bits .and .i64 z 3 := ⟨_, rfl⟩
      have ha' := ha.symm
      clear ha
      cases hk0 : (a == 0) with
      | true =>
        go_wp2
        go_region_with (first
          | (go_at_call 18; refine (fText_any q2 _ _ bs ys bad _ HF5.out).mono ?_; rintro e w6 ⟨rfl, hr6, hg6⟩; have hcell6 := HCW.out _ _ q2 (by have := HL.out.lt; omega) hcell5 hg6; have HT6 : Hid (Two w w6 q1 q2 (.slice ab nb cb) bs _ _) := (two_step HL.out (HT.out.drewN 1) HR5.out HG5.out).2.2 hr6 hg6; clear hr6 hg6)
          | (go_at_call 12; refine (rText_any q1 _ ys bad _ (HT.out.drewN 1).rd).mono ?_; rintro e w5 ⟨rfl, hr5, hg5⟩; have hcell5 := HCW.out _ _ q1 (Nat.le_refl _) (by exact hcell) hg5; have HR5 : Hid (Rd w5 q1 _ _) := hr5; have HG5 : Hid (World.grownBy (wr.drewN 1) w5 (some q1)) := hg5; have HF5 : Hid (Rf w5 q2 (.slice ab nb cb) bs ys bad) := (two_step (w3 := w5) HL.out (HT.out.drewN 1) hr5 hg5).1; clear hr5 hg5))
        all_goals
          first | clear hk1 hk0 ha' | clear hk0 ha'
          have hex : ∃ ys3 bad3, Two w w6 q1 q2 (.slice ab nb cb) bs ys3 bad3 := ⟨_, _, HT6.out⟩
          clear HT6
          obtain ⟨ys3, bad3, hT3⟩ := hex
          have HT3 : Hid (Two w w6 q1 q2 (.slice ab nb cb) bs ys3 bad3) := hT3
          have hc2 := hT3.rf.c2
          clear hT3
          obtain ⟨E, hE⟩ : ∃ E, E = (!bad3 && ys3.isEmpty) := ⟨_, rfl⟩
          have HE : Hid (E = (!bad3 && ys3.isEmpty)) := hE
          clear hE
          have hEE : (E != E) = false := by simp
          have hbb : (bad3 != bad3) = false := by simp
          go_wp2
          go_quiet (first
            | (go_at_call 16; exact Calls.quiet_of_same (rBad_any q1 _ _ _ (HT3.out.drewN _).rd))
            | (go_at_call 17; refine Calls.quiet_of_same (v := .bool E) ?_; rw [HE.out]; exact rEnd_any q1 _ _ _ (HT3.out.drewN _).rd)
            | (go_at_call 21; refine Calls.quiet_of (v := .bool E) ?_; rw [HE.out]; exact fEnd_any q2 _ _ _ _ _ (HT3.out.drewN _).rf))
          go_wp2
          go_roundw
          case rel => exact ⟨j + 1, by omega, by go_num, _, _, HT3.out.drewN nq⟩
          case measure => simp [intOf]; omega
      | false =>
        cases hk1 : (a == 1) with
        | true =>
          go_wp2
          go_region_with (first
            | (go_at_call 19; refine (fCount_any q2 _ _ bs ys bad _ HF5.out).mono ?_; rintro e w6 ⟨rfl, hr6, hg6⟩; have hcell6 := HCW.out _ _ q2 (by have := HL.out.lt; omega) hcell5 hg6; have HT6 : Hid (Two w w6 q1 q2 (.slice ab nb cb) bs _ _) := (two_step HL.out (HT.out.drewN 1) HR5.out HG5.out).2.2 hr6 hg6; clear hr6 hg6)
            | (go_at_call 15; refine (rCount_any q1 _ ys bad _ (HT.out.drewN 1).rd).mono ?_; rintro e w5 ⟨rfl, hr5, hg5⟩; have hcell5 := HCW.out _ _ q1 (Nat.le_refl _) (by exact hcell) hg5; have HR5 : Hid (Rd w5 q1 _ _) := hr5; have HG5 : Hid (World.grownBy (wr.drewN 1) w5 (some q1)) := hg5; have HF5 : Hid (Rf w5 q2 (.slice ab nb cb) bs ys bad) := (two_step (w3 := w5) HL.out (HT.out.drewN 1) hr5 hg5).1; clear hr5 hg5))
          all_goals
            first | clear hk1 hk0 ha' | clear hk0 ha'
            have hex : ∃ ys3 bad3, Two w w6 q1 q2 (.slice ab nb cb) bs ys3 bad3 := ⟨_, _, HT6.out⟩
            clear HT6
            obtain ⟨ys3, bad3, hT3⟩ := hex
            have HT3 : Hid (Two w w6 q1 q2 (.slice ab nb cb) bs ys3 bad3) := hT3
            have hc2 := hT3.rf.c2
            clear hT3
            obtain ⟨E, hE⟩ : ∃ E, E = (!bad3 && ys3.isEmpty) := ⟨_, rfl⟩
            have HE : Hid (E = (!bad3 && ys3.isEmpty)) := hE
            clear hE
            have hEE : (E != E) = false := by simp
            have hbb : (bad3 != bad3) = false := by simp
            go_wp2
            go_quiet (first
              | (go_at_call 16; exact Calls.quiet_of_same (rBad_any q1 _ _ _ (HT3.out.drewN _).rd))
              | (go_at_call 17; refine Calls.quiet_of_same (v := .bool E) ?_; rw [HE.out]; exact rEnd_any q1 _ _ _ (HT3.out.drewN _).rd)
              | (go_at_call 21; refine Calls.quiet_of (v := .bool E) ?_; rw [HE.out]; exact fEnd_any q2 _ _ _ _ _ (HT3.out.drewN _).rf))
            go_wp2
            go_roundw
            case rel => exact ⟨j + 1, by omega, by go_num, _, _, HT3.out.drewN nq⟩
            case measure => simp [intOf]; omega
        | false =>
          go_wp2_with fail
          refine (rI64_any q1 ys bad _ HT.out.rd).mono ?_
          rintro e w5 ⟨rfl, hr5, hg5⟩
          have HR5 : Hid (Rd w5 q1 (Pk.rI ys bad).2.1 (Pk.rI ys bad).2.2) := hr5
          have HG5 : Hid (wr.grownBy w5 (some q1)) := hg5
          have HF5 : Hid (Rf w5 q2 (.slice ab nb cb) bs ys bad) := (two_step (w3 := w5) HL.out HT.out hr5 hg5).1
          clear hr5 hg5
          go_wp2_with fail
          refine (fI64_any q2 _ bs ys bad _ HF5.out).mono ?_
          rintro e w6 ⟨rfl, hr6, hg6⟩
          have HT6 : Hid (Two w w6 q1 q2 (.slice ab nb cb) bs (Pk.rI ys bad).2.1 (Pk.rI ys bad).2.2) := (two_step HL.out HT.out HR5.out HG5.out).2.2 hr6 hg6
          have hii : ((Pk.rI ys bad).1 == (Pk.rI ys bad).1) = true := by simp
          clear hr6 hg6
          first | clear hk1 hk0 ha' | clear hk0 ha'
          have hex : ∃ ys3 bad3, Two w w6 q1 q2 (.slice ab nb cb) bs ys3 bad3 := ⟨_, _, HT6.out⟩
          clear HT6
          obtain ⟨ys3, bad3, hT3⟩ := hex
          have HT3 : Hid (Two w w6 q1 q2 (.slice ab nb cb) bs ys3 bad3) := hT3
          have hc2 := hT3.rf.c2
          clear hT3
          obtain ⟨E, hE⟩ : ∃ E, E = (!bad3 && ys3.isEmpty) := ⟨_, rfl⟩
          have HE : Hid (E = (!bad3 && ys3.isEmpty)) := hE
          clear hE
          have hEE : (E != E) = false := by simp
          have hbb : (bad3 != bad3) = false := by simp
          go_wp2
          go_quiet (first
            | (go_at_call 16; exact Calls.quiet_of_same (rBad_any q1 _ _ _ (HT3.out.drewN _).rd))
            | (go_at_call 17; refine Calls.quiet_of_same (v := .bool E) ?_; rw [HE.out]; exact rEnd_any q1 _ _ _ (HT3.out.drewN _).rd)
            | (go_at_call 21; refine Calls.quiet_of (v := .bool E) ?_; rw [HE.out]; exact fEnd_any q2 _ _ _ _ _ (HT3.out.drewN _).rf))
          go_wp2
          go_roundw
          case rel => exact ⟨j + 1, by omega, by go_num, _, _, HT3.out.drewN nq⟩
          case measure => simp [intOf]; omega
    · have hlt' : ¬ (j : Int) < k := by omega
      have HB9 : Hid (Below w.heap.size w wr) := HT.out.below
      go_wp2
      go_ret
      exact ⟨rfl, HB9.out⟩

set_option maxHeartbeats 1000000 in
theorem reads_many (vb : Value) (bs : List UInt8) (vl : Value) (zs : List Int) (w : World) (hb : Bs w vb bs) (hz : Bi w vl zs) (hl1 : bs.length ≤ maxLen) (hl2 : zs.length ≤ maxLen) (h : 300 < bs.length ∨ 60 < zs.length) :
    Calls Try.prog 4 #[vb, vl] w fun e w' => e = .returned (.bool true) ∧ Below w.heap.size w w' := by
  obtain ⟨ab, nb, cb, rfl, hnb, _⟩ := hb
  obtain ⟨az, k, cz, rfl, hk, _⟩ := hz
  rw [← hnb] at hl1 h
  rw [← hk] at hl2 h
  unfold maxLen at hl1 hl2
  clear hnb hk
  by_cases h1 : (300 : Int) < nb
  · clear h
    go_enter Try.func4, Try.ntmps4
    go_wp2_with fail
    refine (awake_any _).mono ?_
    rintro e w1 ⟨rfl, hb⟩
    have HB1 : Hid (Below w.heap.size w w1) := hb
    clear hb
    go_wp2
    go_ret
    exact ⟨rfl, HB1.out⟩
  · have h2 : (60 : Int) < k := by omega
    clear h
    go_enter Try.func4, Try.ntmps4
    go_wp2_with fail
    refine (awake_any _).mono ?_
    rintro e w1 ⟨rfl, hb⟩
    have HB1 : Hid (Below w.heap.size w w1) := hb
    clear hb
    go_wp2
    go_ret
    exact ⟨rfl, HB1.out⟩

theorem reads_any (vb : Value) (bs : List UInt8) (vl : Value) (zs : List Int) (w : World) (hb : Bs w vb bs) (hz : Bi w vl zs) (hl1 : bs.length ≤ maxLen) (hl2 : zs.length ≤ maxLen) :
    Calls Try.prog 4 #[vb, vl] w fun e w' => e = .returned (.bool true) ∧ Below w.heap.size w w' := by
  by_cases h : 300 < bs.length ∨ 60 < zs.length
  · exact reads_many vb bs vl zs w hb hz hl1 hl2 h
  · exact reads_few vb bs vl zs w hb hz (by omega) (by omega)
end Go.Proofs.Yteloehalobampaa
