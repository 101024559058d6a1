/- What the reference's I64 and Txt answer; 'append([]byte{}, b...)'. What the reference's Reader answers. What the reference's Reader answers: Text, End. What the reference's Same answers. What the reference's Put answers. What the reference's Get has under way. What the reference's Get answers. -/
import Derived.Test.YtpidafpaffpnaaaGreatDoorLibW
import Derived.Deep.QuietTactic
import Derived.BigQuiet
import Derived.BigRegion
import Derived.Test.YtpidafpaffpnaaaGreatDoorBas
import Derived.Test.YtpidafpaffpnaaaGreatDoorPln
import Derived.Deep.DeepCutAuto
import Derived.Test.YtpidafpaffpnaaaGreatDoorLjr
import Derived.Test.YtpidafpaffpnaaaGreatDoorWnd
import Derived.Laws.StructEq
import Derived.Laws.ResultCell
import Derived.Deep.Cut
namespace Go.Proofs.YtpidafpaffpnaaaGreatDoor.Pw
open Go.RowKit

set_option maxRecDepth 20000 in
set_option maxHeartbeats 400000 in
theorem refI64_any (v : Value) (xs : List UInt8) (z : Int) (w : World) (hb : Bs w v xs) (hN : xs.length ≤ 200000) :
    Calls Tryz.prog 93 #[v, .int .i64 z] w fun e w' => ∃ v', e = .returned v' ∧ w'.ownsRow w.heap.size 5 1 v' (xs.length + 8) (bc (xs ++ Pk.be8 z)) ∧ Below w.heap.size w w' := by
  have HS : Hid (Bs w v xs) := hb
  have HN : Hid (xs.length ≤ 200000) := hN
  obtain ⟨n, hn⟩ : ∃ n, n = xs.length := ⟨_, rfl⟩
  have HL : Hid (n = xs.length) := hn
  have hN1 : n ≤ 200000 := by omega
  rw [← hn]
  clear hb hN hn
  go_enter Tryz.func93, Tryz.ntmps93
  go_wp2_with (at_builtin; refine append_copy rfl _ _ rfl v xs w rfl rfl HS.out HN.out ?_)
  intro v1 w1 hown hb
  rw [← HL.out] at hown
  have HO : Hid (w1.ownsRow w.heap.size 5 1 v1 n (bc xs)) := hown
  have HB : Hid (Below w.heap.size w w1) := hb
  clear hown hb
  go_wp2
  go_loopw [5, 6] (fun u i wr => ∃ k : Nat, k ≤ 8 ∧ i = .int .i64 (7 - (k : Int)) ∧ wr.ownsRow w.heap.size 5 1 u (n + k) (bc (xs ++ (Pk.be8 z).take k)) ∧ Below w.heap.size w wr) (fun _ i _ => (intOf i + 1).toNat)
  case atStart => exact ⟨0, by omega, rfl, by simpa using HO.out, HB.out⟩
  case round =>
    obtain ⟨k, hk, rfl, hown, hb⟩ := hrel
    have HO1 : Hid (wr.ownsRow w.heap.size 5 1 u5 (n + k) (bc (xs ++ (Pk.be8 z).take k))) := hown
    have HB1 : Hid (Below w.heap.size w wr) := hb
    clear hown hb
    by_cases h8 : k < 8
    · have h0 : (0 : Int) ≤ 7 - (k : Int) := by omega
      have hBw : w.heap.size ≤ wr.heap.size := HB1.out.size
      go_wp2_with (at_builtin; refine append_byte rfl _ _ rfl w.heap.size u5 _ _ rfl wr _ (Pk.byteAt z (56 - 8 * k)) HO1.out hBw rfl (by omega) ?c1 ?_)
      case c1 => rw [Pk.byteAt_nat, IntKind.wrap_u64, show 8 * (7 - k) = 56 - 8 * k by omega]
      intro v' w1 hown hb
      have HO2 : Hid (w1.ownsRow w.heap.size 5 1 v' (n + k + 1) (bc (xs ++ ((Pk.be8 z).take k ++ [Pk.byteAt z (56 - 8 * k)])))) := by first | exact hown | (rw [← List.append_assoc]; exact hown)
      have HB2 : Hid (Below w.heap.size w w1) := HB1.out.trans hb
      clear hown hb
      go_wp2
      go_roundw
      case rel => exact ⟨k + 1, by omega, by go_num, by rw [be8_take z k h8]; exact HO2.out, HB2.out⟩
      case measure => simp [intOf]; omega
    · have h0 : ¬ (0 : Int) ≤ 7 - (k : Int) := by omega
      obtain rfl : k = 8 := by omega
      go_wp2
      go_ret
      exact ⟨_, rfl, HO1.out, HB1.out⟩

set_option maxRecDepth 20000 in
set_option maxHeartbeats 400000 in
theorem refTxt_any (v : Value) (xs : List UInt8) (s : ByteArray) (w : World) (hb : Bs w v xs) (hN : xs.length ≤ 200000) (hs : s.size ≤ 10000) :
    Calls Tryz.prog 95 #[v, .string s] w fun e w' => ∃ v', e = .returned v' ∧ Bs w' v' (xs ++ Pk.txt s.data.toList) ∧ Below w.heap.size w w' := by
  have HS : Hid (Bs w v xs) := hb
  have HN : Hid (xs.length ≤ 200000) := hN
  clear hb hN
  go_enter Tryz.func95, Tryz.ntmps95
  go_wp2_with fail
  refine (refI64_any v xs _ _ HS.out HN.out).mono ?_
  rintro e w1 ⟨v1, rfl, hown, hb⟩
  have HO : Hid (w1.ownsRow w.heap.size 5 1 v1 (xs.length + 8) (bc (xs ++ Pk.be8 s.size))) := hown
  have HB : Hid (Below w.heap.size w w1) := hb
  clear hown hb
  go_wp2_with (at_builtin; refine append_text rfl _ _ rfl w.heap.size v1 _ _ rfl _ HO.out HB.out.size s rfl (by have := HN.out; omega) ?_)
  intro v2 w2 hown hb
  have HO2 : Hid (Bs w2 v2 (xs ++ Pk.txt s.data.toList)) := by
    have h := Bs.own hown
    first | exact h | (rw [List.append_assoc] at h; exact h)
  have HB2 : Hid (Below w.heap.size w w2) := HB.out.trans hb
  clear hown hb
  go_wp2
  go_ret
  exact ⟨_, rfl, HO2.out, HB2.out⟩

theorem refI64_bs (v : Value) (xs : List UInt8) (z : Int) (w : World) (hb : Bs w v xs) (hN : xs.length ≤ 200000) :
    Calls Tryz.prog 93 #[v, .int .i64 z] w fun e w' => ∃ v', e = .returned v' ∧ Bs w' v' (xs ++ Pk.be8 z) ∧ Below w.heap.size w w' := by
  refine (refI64_any v xs z w hb hN).mono ?_
  rintro e w' ⟨v', rfl, ho, hb⟩
  exact ⟨v', rfl, Bs.own ho, hb⟩

end Go.Proofs.YtpidafpaffpnaaaGreatDoor.Pw
namespace Go.Proofs.YtpidafpaffpnaaaGreatDoor.Pw
open Go.RowKit

/-- The reference's Reader at block q, over bytes xs that lie elsewhere; ys is what it has left, bs8 the document says it. -/
structure Rf (w : World) (q : Nat) (v : Value) (xs ys : List UInt8) (bad : Bool) : Prop where
  pos : ∃ t : Nat, w.cell? ⟨q, 1, none⟩ = some (.int .i64 t) ∧ t ≤ xs.length ∧ (bad = false → ys = xs.drop t)
  c0 : w.cell? ⟨q, 0, none⟩ = some v
  c2 : w.cell? ⟨q, 2, none⟩ = some (.bool bad)
  f1 : w.frozen? ⟨q, 1, none⟩ = false
  f2 : w.frozen? ⟨q, 2, none⟩ = false
  bs : Bs w v xs
  blk : 0 < xs.length → v.ownBlock ≠ some q
  sad : bad = true → ys = []
  few : xs.length ≤ 200000

/-- Another block's change leaves it as it is. -/
theorem Rf.grown {w w' : World} {q r : Nat} {v : Value} {xs ys : List UInt8} {bad : Bool} (h : Rf w q v xs ys bad) (hg : w.grownBy w' (some r)) (hr : q ≠ r) (hv : 0 < xs.length → v.ownBlock ≠ some r) : Rf w' q v xs ys bad := by
  obtain ⟨t, h1, h2, h3⟩ := h.pos
  have hlt : q < w.heap.size := World.block_lt_of_cell? w ⟨q, 1, none⟩ h1
  have hb := hg.block q hlt (by simpa using hr)
  exact ⟨⟨t, (World.cell?_of_block hb).trans h1, h2, h3⟩, (World.cell?_of_block hb).trans h.c0, (World.cell?_of_block hb).trans h.c2, (World.frozen?_of_block hb).trans h.f1, (World.frozen?_of_block hb).trans h.f2, h.bs.grown hg hv, h.blk, h.sad, h.few⟩

/-- It is made Bad. -/
theorem rf_sad {w : World} {q : Nat} {v : Value} {xs ys : List UInt8} {bad : Bool} (h : Rf w q v xs ys bad) (n : Nat) : Rf ((w.drewN n).setCell ⟨q, 2, none⟩ (.bool true)) q v xs [] true ∧ w.grownBy ((w.drewN n).setCell ⟨q, 2, none⟩ (.bool true)) (some q) := by
  have hg : w.grownBy ((w.drewN n).setCell ⟨q, 2, none⟩ (.bool true)) (some q) := grownBy_trans (grownBy_drewN w n _) (grownBy_setCell _ ⟨q, 2, none⟩ _)
  obtain ⟨t, h1, h2, _⟩ := h.pos
  refine ⟨⟨⟨t, ?_, h2, fun e => by cases e⟩, ?_, ?_, by simpa using h.f1, by simpa using h.f2, h.bs.grown hg h.blk, h.blk, fun _ => rfl, h.few⟩, hg⟩
  · rw [World.cell?_setCell_other _ _ _ _ (by simp)]; exact h1
  · rw [World.cell?_setCell_other _ _ _ _ (by simp)]; exact h.c0
  · exact World.cell?_setCell_same _ _ _ (u := .bool bad) h.c2

/-- It goes on. -/
theorem rf_on {w : World} {q k t : Nat} {v : Value} {xs ys : List UInt8} (h : Rf w q v xs ys false) (n : Nat) (z : Int) (hz : z = ((t + k : Nat) : Int)) (ht : w.cell? ⟨q, 1, none⟩ = some (.int .i64 t)) (hy : ys = xs.drop t) (hk : t + k ≤ xs.length) :
    Rf ((w.drewN n).setCell ⟨q, 1, none⟩ (.int .i64 z)) q v xs (ys.drop k) false ∧ w.grownBy ((w.drewN n).setCell ⟨q, 1, none⟩ (.int .i64 z)) (some q) := by
  have hg : w.grownBy ((w.drewN n).setCell ⟨q, 1, none⟩ (.int .i64 z)) (some q) := grownBy_trans (grownBy_drewN w n _) (grownBy_setCell _ ⟨q, 1, none⟩ _)
  refine ⟨⟨⟨t + k, ?_, hk, fun _ => by rw [hy, List.drop_drop]⟩, ?_, ?_, by simpa using h.f1, by simpa using h.f2, h.bs.grown hg h.blk, h.blk, fun e => (by cases e), h.few⟩, hg⟩
  · rw [← hz]; exact World.cell?_setCell_same _ _ _ (u := .int .i64 t) ht
  · rw [World.cell?_setCell_other _ _ _ _ (by simp)]; exact h.c0
  · rw [World.cell?_setCell_other _ _ _ _ (by simp)]; exact h.c2

set_option maxRecDepth 20000 in
set_option maxHeartbeats 1000000 in
theorem fI64_bad (q : Nat) (v : Value) (xs ys : List UInt8) (w : World) (hR : Rf w q v xs ys true) :
    Calls Tryz.prog 144 #[.pointer (some ⟨q, 0, none⟩)] w fun e w' => e = .returned (.int .i64 0) ∧ Rf w' q v xs [] true ∧ w.grownBy w' (some q) := by
  have HR : Hid (Rf w q v xs ys true) := hR
  have hc2 := hR.c2
  have hf2 := hR.f2
  clear hR
  go_enter Tryz.func144, Tryz.ntmps144
  go_wp2
  go_quiet (fail)
  go_wp2
  go_ret
  exact ⟨rfl, (rf_sad HR.out _).1, (rf_sad HR.out _).2⟩

set_option maxRecDepth 20000 in
set_option maxHeartbeats 1000000 in
theorem fI64_few (q t : Nat) (v : Value) (xs ys : List UInt8) (w : World) (hR : Rf w q v xs ys false) (hc1 : w.cell? ⟨q, 1, none⟩ = some (.int .i64 t)) (ht : t ≤ xs.length) (hn : xs.length < t + 8) :
    Calls Tryz.prog 144 #[.pointer (some ⟨q, 0, none⟩)] w fun e w' => e = .returned (.int .i64 0) ∧ Rf w' q v xs [] true ∧ w.grownBy w' (some q) := by
  have HR : Hid (Rf w q v xs ys false) := hR
  have hc2 := hR.c2
  have hc0 := hR.c0
  have hf2 := hR.f2
  have hfew := hR.few
  obtain ⟨ao, n, c, rfl, hnl, _⟩ := hR.bs
  rw [← hnl] at hn ht hfew
  clear hR hnl
  have hd : (n : Int) - t < 8 := by omega
  go_enter Tryz.func144, Tryz.ntmps144
  go_wp2
  go_quiet (fail)
  go_wp2
  go_ret
  exact ⟨rfl, (rf_sad HR.out _).1, (rf_sad HR.out _).2⟩

set_option maxRecDepth 20000 in
set_option maxHeartbeats 1000000 in
theorem fI64_some (q t : Nat) (v : Value) (xs ys : List UInt8) (w : World) (hR : Rf w q v xs ys false) (hc1 : w.cell? ⟨q, 1, none⟩ = some (.int .i64 t)) (hy : ys = xs.drop t) (hn : t + 8 ≤ xs.length) :
    Calls Tryz.prog 144 #[.pointer (some ⟨q, 0, none⟩)] w fun e w' => e = .returned (.int .i64 (Pk.sgn (Pk.val (ys.take 8)))) ∧ Rf w' q v xs (ys.drop 8) false ∧ w.grownBy w' (some q) := by
  have HR : Hid (Rf w q v xs ys false) := hR
  have hc2 := hR.c2
  have hc0 := hR.c0
  have hf1 := hR.f1
  have hfew := hR.few
  have HY : Hid (ys = xs.drop t) := hy
  obtain ⟨bs8, has⟩ : ∃ bs8, bs8 = ys.take 8 := ⟨_, rfl⟩
  rw [← has]
  have HAL : Hid (bs8.length = 8) := by
    have h : bs8.length = 8 := by rw [has, List.length_take, hy, List.length_drop]; omega
    exact h
  obtain ⟨g, o, n, c, rfl, hnl, hnc, hcells⟩ := hR.bs.plain (by omega)
  have HA : Hid (∀ (j : Nat) x, bs8[j]? = some x → w.cell? ⟨g, o + (t + j), none⟩ = some (.int .u8 (x.toNat : Int))) := by
    intro j x hx
    refine hcells (t + j) x ?_
    rw [has, hy, List.getElem?_take] at hx
    split at hx
    · rw [List.getElem?_drop] at hx; exact hx
    · cases hx
  have HN : Hid (t + 8 ≤ xs.length) := hn
  rw [← hnl] at hn hfew
  clear hR hnl hy has hcells
  have hd : decide ((n : Int) - t < 8) = false := by simp; omega
  have hd2 : ¬ (n : Int) - t < 8 := by omega
  go_enter Tryz.func144, Tryz.ntmps144
  go_wp2
  go_quiet (fail)
  go_wp2
  go_loopw [3, 4] (fun u i wr => ∃ j : Nat, j ≤ 8 ∧ i = .int .i64 j ∧ u = .int .u64 (Pk.val (bs8.take j)) ∧ ∃ m, wr = w.drewN m) (fun _ i _ => 8 - (intOf i).toNat)
  case atStart => exact ⟨0, by omega, rfl, rfl, nq, rfl⟩
  case round =>
    obtain ⟨j, hj, rfl, rfl, m, rfl⟩ := hrel
    obtain ⟨a, ha⟩ : ∃ a, a = Pk.val (bs8.take j) := ⟨_, rfl⟩
    rw [← ha]
    have HV : Hid (a = Pk.val (bs8.take j)) := ha
    clear ha
    by_cases hlt : j < 8
    · obtain ⟨x, hx⟩ : ∃ x, bs8[j]? = some x := ⟨bs8[j]'(by rw [HAL.out]; exact hlt), List.getElem?_eq_getElem _⟩
      have hcell := HA.out j x hx
      have HX : Hid (bs8[j]? = some x) := hx
      clear hx
      have hlt' : (j : Int) < 8 := by omega
      have hb0 : (0 : Int) ≤ (t : Int) + j := by omega
      have hb1 : (t : Int) + j < n := by omega
      go_wp2
      go_quiet (fail)
      go_wp2
      go_roundw
      case rel => exact ⟨j + 1, by omega, by go_num, by rw [val_step bs8 j x a HX.out HV.out hlt], _, rfl⟩
      case measure => simp [intOf]; omega
    · have hlt' : ¬ (j : Int) < 8 := by omega
      have h8 : a = Pk.val bs8 := by rw [HV.out, List.take_of_length_le (by rw [HAL.out]; omega)]
      have HW : Hid (wrap64 (a : Int) = Pk.sgn (Pk.val bs8)) := by rw [h8]; exact wrap_sgn _ (val8_lt bs8 HAL.out)
      clear h8
      go_wp2
      go_ret
      have hon := rf_on (k := 8) HR.out m _ (show (t : Int) + 8 = ((t + 8 : Nat) : Int) by omega) hc1 HY.out HN.out
      exact ⟨by rw [← HW.out]; rfl, hon.1, hon.2⟩

theorem fI64_any (q : Nat) (v : Value) (xs ys : List UInt8) (bad : Bool) (w : World) (hR : Rf w q v xs ys bad) :
    Calls Tryz.prog 144 #[.pointer (some ⟨q, 0, none⟩)] w fun e w' => e = .returned (.int .i64 (Pk.rI ys bad).1) ∧ Rf w' q v xs (Pk.rI ys bad).2.1 (Pk.rI ys bad).2.2 ∧ w.grownBy w' (some q) := by
  unfold Pk.rI
  cases bad with
  | true =>
    obtain rfl := hR.sad rfl
    exact fI64_bad q v xs _ w hR
  | false =>
    obtain ⟨t, hc1, ht, hy⟩ := hR.pos
    have hy := hy rfl
    have hl : ys.length = xs.length - t := by rw [hy, List.length_drop]
    by_cases h : 8 ≤ ys.length
    · rw [if_pos h]; exact fI64_some q t v xs ys w hR hc1 hy (by omega)
    · rw [if_neg h]; exact fI64_few q t v xs ys w hR hc1 ht (by omega)

theorem rI_sad {ys : List UInt8} {bad : Bool} (h0 : bad = true → ys = []) (h : (Pk.rI ys bad).2.2 = true) : Pk.rI ys bad = (0, [], true) := by
  unfold Pk.rI at h ⊢
  split
  · rename_i h8
    rw [if_pos h8] at h
    have := h0 h
    rw [this] at h8
    simp at h8
  · rfl

theorem rC_sad {m : Int} {ys : List UInt8} {bad : Bool} (h0 : bad = true → ys = []) (h : (Pk.rI ys bad).2.2 = true) : Pk.rC m ys bad = (0, [], true) := by
  unfold Pk.rC
  rw [rI_sad h0 h]
  split <;> rfl

set_option maxRecDepth 20000 in
set_option maxHeartbeats 1000000 in
theorem fCount_any (q : Nat) (m : Int) (v : Value) (xs ys : List UInt8) (bad : Bool) (w : World) (hR : Rf w q v xs ys bad) :
    Calls Tryz.prog 97 #[.pointer (some ⟨q, 0, none⟩), .int .i64 m] w fun e w' => e = .returned (.int .i64 (Pk.rC m ys bad).1) ∧ Rf w' q v xs (Pk.rC m ys bad).2.1 (Pk.rC m ys bad).2.2 ∧ w.grownBy w' (some q) := by
  have HR : Hid (Rf w q v xs ys bad) := hR
  have HSD : Hid (bad = true → ys = []) := hR.sad
  clear hR
  obtain ⟨z, hz⟩ : ∃ z, z = (Pk.rI ys bad).1 := ⟨_, rfl⟩
  have HZ : Hid (z = (Pk.rI ys bad).1) := hz
  obtain ⟨b, hb⟩ : ∃ b, b = (Pk.rI ys bad).2.2 := ⟨_, rfl⟩
  have HBB : Hid (b = (Pk.rI ys bad).2.2) := hb
  by_cases hbad : b = true
  · subst hbad
    rw [rC_sad HSD.out hb.symm]
    clear hz hb
    go_enter Tryz.func97, Tryz.ntmps97
    go_wp2_with fail
    refine (fI64_any q v xs ys bad _ HR.out).mono ?_
    rintro e w1 ⟨rfl, hr, hg⟩
    rw [← HBB.out] at hr
    have HR1 : Hid (Rf w1 q v xs (Pk.rI ys bad).2.1 true) := hr
    have HG1 : Hid (w.grownBy w1 (some q)) := hg
    have hc2 := hr.c2
    have hf2 := hr.f2
    clear hr hg
    go_wp2
    go_ret
    exact ⟨rfl, (rf_sad HR1.out 0).1, grownBy_trans HG1.out (rf_sad HR1.out 0).2⟩
  · have hbf : b = false := by simpa using hbad
    subst hbf
    unfold Pk.rC
    by_cases h1 : z < 0
    · rw [if_pos (by rw [← hz]; exact Or.inl h1)]
      clear hz hb
      go_enter Tryz.func97, Tryz.ntmps97
      go_wp2_with fail
      refine (fI64_any q v xs ys bad _ HR.out).mono ?_
      rintro e w1 ⟨rfl, hr, hg⟩
      rw [← HZ.out]
      rw [← HBB.out] at hr
      have HR1 : Hid (Rf w1 q v xs (Pk.rI ys bad).2.1 false) := hr
      have HG1 : Hid (w.grownBy w1 (some q)) := hg
      have hc2 := hr.c2
      have hf2 := hr.f2
      clear hr hg
      go_wp2
      go_ret
      exact ⟨rfl, (rf_sad HR1.out 0).1, grownBy_trans HG1.out (rf_sad HR1.out 0).2⟩
    by_cases h2 : m < z
    · rw [if_pos (by rw [← hz]; exact Or.inr h2)]
      clear hz hb
      go_enter Tryz.func97, Tryz.ntmps97
      go_wp2_with fail
      refine (fI64_any q v xs ys bad _ HR.out).mono ?_
      rintro e w1 ⟨rfl, hr, hg⟩
      rw [← HZ.out]
      rw [← HBB.out] at hr
      have HR1 : Hid (Rf w1 q v xs (Pk.rI ys bad).2.1 false) := hr
      have HG1 : Hid (w.grownBy w1 (some q)) := hg
      have hc2 := hr.c2
      have hf2 := hr.f2
      clear hr hg
      go_wp2
      go_ret
      exact ⟨rfl, (rf_sad HR1.out 0).1, grownBy_trans HG1.out (rf_sad HR1.out 0).2⟩
    · rw [if_neg (by rw [← hz]; exact fun h => h.elim h1 h2)]
      rw [← hz]
      clear hz hb
      go_enter Tryz.func97, Tryz.ntmps97
      go_wp2_with fail
      refine (fI64_any q v xs ys bad _ HR.out).mono ?_
      rintro e w1 ⟨rfl, hr, hg⟩
      rw [← HZ.out]
      rw [← HBB.out] at hr
      have HR1 : Hid (Rf w1 q v xs (Pk.rI ys bad).2.1 false) := hr
      have HG1 : Hid (w.grownBy w1 (some q)) := hg
      have hc2 := hr.c2
      clear hr hg
      go_wp2
      go_ret
      exact ⟨rfl, by rw [← HBB.out]; exact HR1.out, HG1.out⟩

theorem rT_sad {m : Int} {ys : List UInt8} {bad : Bool} (h : (Pk.rC m ys bad).2.2 = true) (h0 : bad = true → ys = []) : Pk.rT m ys bad = ([], [], true) := by
  have e : Pk.rC m ys bad = (0, [], true) := by
    unfold Pk.rC at h ⊢
    split
    · rfl
    · rename_i hc
      rw [if_neg hc] at h
      exact rI_sad h0 h
  unfold Pk.rT
  rw [e]; rfl

end Go.Proofs.YtpidafpaffpnaaaGreatDoor.Pw
namespace Go.Proofs.YtpidafpaffpnaaaGreatDoor.Pw
open Go.RowKit

set_option maxRecDepth 20000 in
set_option maxHeartbeats 1000000 in
theorem fText_sad (q : Nat) (m : Int) (v : Value) (xs ys : List UInt8) (bad : Bool) (w : World) (hR : Rf w q v xs ys bad) (hb : (Pk.rC m ys bad).2.2 = true) :
    Calls Tryz.prog 98 #[.pointer (some ⟨q, 0, none⟩), .int .i64 m] w fun e w' => e = .returned (.string ⟨#[]⟩) ∧ Rf w' q v xs [] true ∧ w.grownBy w' (some q) := by
  have HR : Hid (Rf w q v xs ys bad) := hR
  have HBB : Hid ((Pk.rC m ys bad).2.2 = true) := hb
  clear hR hb
  go_enter Tryz.func98, Tryz.ntmps98
  go_wp2_with fail
  refine (fCount_any q m v xs ys bad _ HR.out).mono ?_
  rintro e w1 ⟨rfl, hr, hg⟩
  rw [HBB.out] at hr
  have HR1 : Hid (Rf w1 q v xs (Pk.rC m ys bad).2.1 true) := hr
  have HG1 : Hid (w.grownBy w1 (some q)) := hg
  have hc2 := hr.c2
  have hf2 := hr.f2
  clear hr hg
  go_wp2
  go_quiet (fail)
  go_wp2
  go_ret
  exact ⟨rfl, (rf_sad HR1.out _).1, grownBy_trans HG1.out (rf_sad HR1.out _).2⟩

set_option maxRecDepth 20000 in
set_option maxHeartbeats 1000000 in
theorem fText_few (q k : Nat) (m : Int) (v : Value) (xs ys : List UInt8) (bad : Bool) (w : World) (hR : Rf w q v xs ys bad) (hb : (Pk.rC m ys bad).2.2 = false) (hk : (Pk.rC m ys bad).1 = (k : Int)) (hK : k ≤ 9223372036854775807) (hl : (Pk.rC m ys bad).2.1.length < k) :
    Calls Tryz.prog 98 #[.pointer (some ⟨q, 0, none⟩), .int .i64 m] w fun e w' => e = .returned (.string ⟨#[]⟩) ∧ Rf w' q v xs [] true ∧ w.grownBy w' (some q) := by
  have HR : Hid (Rf w q v xs ys bad) := hR
  have HBB : Hid ((Pk.rC m ys bad).2.2 = false) := hb
  have HK : Hid ((Pk.rC m ys bad).1 = (k : Int)) := hk
  have HL : Hid ((Pk.rC m ys bad).2.1.length < k) := hl
  clear hR hb hk hl
  go_enter Tryz.func98, Tryz.ntmps98
  go_wp2_with fail
  refine (fCount_any q m v xs ys bad _ HR.out).mono ?_
  rintro e w1 ⟨rfl, hr, hg⟩
  rw [HBB.out] at hr
  rw [HK.out]
  have HR1 : Hid (Rf w1 q v xs (Pk.rC m ys bad).2.1 false) := hr
  have HG1 : Hid (w.grownBy w1 (some q)) := hg
  have hc2 := hr.c2
  have hc0 := hr.c0
  have hf2 := hr.f2
  have hfew := hr.few
  obtain ⟨t, hc1, ht, hy0⟩ := hr.pos
  have hy := hy0 rfl
  clear hy0
  obtain ⟨ao, n, c, rfl, hnl, _⟩ := hr.bs
  have hd : (n : Int) - t < k := by
    have h1 := HL.out
    rw [hy, List.length_drop] at h1
    omega
  rw [← hnl] at ht hfew
  clear hr hg hy hnl
  go_wp2
  go_quiet (fail)
  go_wp2
  go_ret
  exact ⟨rfl, (rf_sad HR1.out _).1, grownBy_trans HG1.out (rf_sad HR1.out _).2⟩

set_option maxRecDepth 20000 in
set_option maxHeartbeats 1000000 in
theorem fText_some (q k : Nat) (m : Int) (v : Value) (xs ys : List UInt8) (bad : Bool) (w : World) (hR : Rf w q v xs ys bad) (hb : (Pk.rC m ys bad).2.2 = false) (hk : (Pk.rC m ys bad).1 = (k : Int)) (hl : k ≤ (Pk.rC m ys bad).2.1.length) :
    Calls Tryz.prog 98 #[.pointer (some ⟨q, 0, none⟩), .int .i64 m] w fun e w' => e = .returned (.string ⟨((Pk.rC m ys bad).2.1.take k).toArray⟩) ∧ Rf w' q v xs ((Pk.rC m ys bad).2.1.drop k) false ∧ w.grownBy w' (some q) := by
  have HR : Hid (Rf w q v xs ys bad) := hR
  have HBB : Hid ((Pk.rC m ys bad).2.2 = false) := hb
  have HK : Hid ((Pk.rC m ys bad).1 = (k : Int)) := hk
  obtain ⟨zs, hzs⟩ : ∃ zs, zs = (Pk.rC m ys bad).2.1 := ⟨_, rfl⟩
  rw [← hzs] at hl ⊢
  have HZS : Hid (zs = (Pk.rC m ys bad).2.1) := hzs
  have HL : Hid (k ≤ zs.length) := hl
  obtain ⟨S, hS⟩ : ∃ S : ByteArray, S = ⟨(zs.take k).toArray⟩ := ⟨_, rfl⟩
  rw [← hS]
  have HS : Hid (S = ⟨(zs.take k).toArray⟩) := hS
  clear hR hb hk hl hzs hS
  go_enter Tryz.func98, Tryz.ntmps98
  go_wp2_with fail
  refine (fCount_any q m v xs ys bad _ HR.out).mono ?_
  rintro e w1 ⟨rfl, hr, hg⟩
  rw [HBB.out, ← HZS.out] at hr
  rw [HK.out]
  have HR1 : Hid (Rf w1 q v xs zs false) := hr
  have HG1 : Hid (w.grownBy w1 (some q)) := hg
  have hc2 := hr.c2
  have hc0 := hr.c0
  have hf1 := hr.f1
  have hfew := hr.few
  obtain ⟨t, hc1, ht, hy0⟩ := hr.pos
  have hy := hy0 rfl
  clear hy0
  have HY : Hid (zs = xs.drop t) := hy
  have hzl : zs.length = xs.length - t := by rw [hy, List.length_drop]
  by_cases hk0 : k = 0
  · subst hk0
    obtain ⟨ao, n, c, rfl, hnl, hsl⟩ := hr.bs
    have hnc : n ≤ c := by rw [hnl]; exact hsl.cap
    obtain rfl : S = ⟨#[]⟩ := by rw [HS.out]; rfl
    have HT : Hid (t + 0 ≤ xs.length) := ht
    have hcv := conv_none
    rw [← hnl] at ht hfew
    clear hr hg hy hzl hnl hsl
    have hd : decide ((n : Int) - t < 0) = false := by simp; omega
    have hd2 : ¬ (n : Int) - t < 0 := by omega
    have HON : Hid (∀ n2, Rf ((w1.drewN n2).setCell ⟨q, 1, none⟩ (.int .i64 (t : Int))) q (.slice ao n c) xs (zs.drop 0) false ∧ w1.grownBy ((w1.drewN n2).setCell ⟨q, 1, none⟩ (.int .i64 (t : Int))) (some q)) := fun n2 => rf_on (k := 0) HR1.out n2 (t : Int) (by simp) hc1 HY.out HT.out
    by_cases hct : c = t
    · subst hct
      go_wp2
      go_quiet (fail)
      go_wp2
      go_quiet (fail)
      go_wp2
      go_ret
      exact ⟨rfl, (HON.out _).1, grownBy_trans HG1.out (HON.out _).2⟩
    · have hb1 : (t : Int) ≤ c := by omega
      go_wp2
      go_quiet (fail)
      go_wp2
      go_quiet (fail)
      go_wp2
      go_ret
      exact ⟨rfl, (HON.out _).1, grownBy_trans HG1.out (HON.out _).2⟩
  · obtain ⟨g, o, n, c, rfl, hnl, hnc, hcells⟩ := hr.bs.plain (by have := HL.out; omega)
    have HT : Hid (t + k ≤ xs.length) := by
      have h : t + k ≤ xs.length := by have := HL.out; omega
      exact h
    have hcv : ∀ q2, (convert 82 9 (.slice (some ⟨g, o + t, none⟩) k (c - t))).run Tryz.prog (w1.drewN q2) = .ok (.string S) (w1.drewN q2) := fun q2 => by
      rw [HS.out]
      refine (bs_of_plain (by rw [List.length_take]; have := HL.out; omega) (by have := HT.out; omega) (fun i x hx => ?_)).conv
      rw [List.getElem?_take] at hx
      split at hx
      · rw [HY.out, List.getElem?_drop] at hx
        rw [Nat.add_assoc]
        exact hcells (t + i) x hx
      · cases hx
    have htk : t + k ≤ n := by rw [hnl]; exact HT.out
    rw [← hnl] at ht hfew
    clear hr hg hy hzl hnl hcells
    have hd : decide ((n : Int) - t < k) = false := by simp; omega
    have hd2 : ¬ (n : Int) - t < k := by omega
    have hb1 : (t : Int) ≤ (t : Int) + k := by omega
    have hb2 : (t : Int) + k ≤ c := by omega
    have hb3 : ¬ c = t := by omega
    have hb4 : t + k - t = k := by omega
    go_wp2
    go_quiet (fail)
    go_wp2
    go_quiet (fail)
    have hon := fun n => rf_on (k := k) HR1.out n ((t : Int) + k) (by omega) hc1 HY.out HT.out
    go_wp2
    go_ret
    exact ⟨rfl, (hon _).1, grownBy_trans HG1.out (hon _).2⟩

theorem sgn_le (n : Nat) (h : n < 18446744073709551616) : Pk.sgn n ≤ 9223372036854775807 := by
  unfold Pk.sgn; split <;> omega

theorem rI_le (ys : List UInt8) (bad : Bool) : (Pk.rI ys bad).1 ≤ 9223372036854775807 := by
  unfold Pk.rI
  split
  · rename_i h
    exact sgn_le _ (val8_lt _ (by rw [List.length_take]; omega))
  · show (0 : Int) ≤ _; decide

theorem rC_le (m : Int) (ys : List UInt8) (bad : Bool) : (Pk.rC m ys bad).1 ≤ 9223372036854775807 := by
  unfold Pk.rC
  split
  · show (0 : Int) ≤ _; decide
  · exact rI_le ys bad

theorem fText_any (q : Nat) (m : Int) (v : Value) (xs ys : List UInt8) (bad : Bool) (w : World) (hR : Rf w q v xs ys bad) :
    Calls Tryz.prog 98 #[.pointer (some ⟨q, 0, none⟩), .int .i64 m] w fun e w' => e = .returned (.string ⟨(Pk.rT m ys bad).1.toArray⟩) ∧ Rf w' q v xs (Pk.rT m ys bad).2.1 (Pk.rT m ys bad).2.2 ∧ w.grownBy w' (some q) := by
  cases hb : (Pk.rC m ys bad).2.2 with
  | true =>
    rw [rT_sad hb hR.sad]
    exact fText_sad q m v xs ys bad w hR hb
  | false =>
    have h0 := Pk.rC_nonneg m ys bad
    have h1 := rC_le m ys bad
    obtain ⟨k, hk⟩ : ∃ k : Nat, (Pk.rC m ys bad).1 = (k : Int) := ⟨(Pk.rC m ys bad).1.toNat, by omega⟩
    have hkt : (Pk.rC m ys bad).1.toNat = k := by omega
    unfold Pk.rT
    rw [hkt, hb]
    by_cases h : k ≤ (Pk.rC m ys bad).2.1.length
    · rw [if_pos h]; exact fText_some q k m v xs ys bad w hR hb hk h
    · rw [if_neg h]; exact fText_few q k m v xs ys bad w hR hb hk (by omega) (by omega)

set_option maxRecDepth 20000 in
set_option maxHeartbeats 1000000 in
theorem fEnd_any (q : Nat) (v : Value) (xs ys : List UInt8) (bad : Bool) (w : World) (hR : Rf w q v xs ys bad) :
    Calls Tryz.prog 100 #[.pointer (some ⟨q, 0, none⟩)] w fun e w' => e = .returned (.bool (!bad && ys.isEmpty)) ∧ ∃ n, w' = w.drewN n := by
  have hc2 := hR.c2
  have hc0 := hR.c0
  have hfew := hR.few
  obtain ⟨t, hc1, ht, hy⟩ := hR.pos
  obtain ⟨ao, n, c, rfl, hnl, _⟩ := hR.bs
  cases bad with
  | true =>
    clear hR hy hnl ht hfew
    go_enter Tryz.func100, Tryz.ntmps100
    go_wp2
    go_quiet (fail)
    go_wp2
    go_ret
    exact ⟨rfl, _, rfl⟩
  | false =>
    have hy1 := hy rfl
    clear hy
    have hy := hy1
    clear hy1
    obtain ⟨r, hr⟩ : ∃ r, r = ys.isEmpty := ⟨_, rfl⟩
    rw [← hr]
    have hl : ys.length = n - t := by rw [hy, List.length_drop, ← hnl]
    rw [← hnl] at ht hfew
    cases h0 : ((t : Int) == (n : Int)) with
    | true =>
      have e : (t : Int) = n := by simpa using h0
      obtain rfl : r = true := by rw [hr, List.isEmpty_iff_length_eq_zero]; omega
      clear hR hy hnl hr hl e ht hfew
      go_enter Tryz.func100, Tryz.ntmps100
      go_wp2
      go_quiet (fail)
      go_wp2
      go_ret
      exact ⟨rfl, _, rfl⟩
    | false =>
      have e : (t : Int) ≠ n := by simpa using h0
      obtain rfl : r = false := by
        rw [hr]
        cases hq : ys.isEmpty with
        | false => rfl
        | true => rw [List.isEmpty_iff_length_eq_zero] at hq; omega
      clear hR hy hnl hr hl e ht hfew
      go_enter Tryz.func100, Tryz.ntmps100
      go_wp2
      go_quiet (fail)
      go_wp2
      go_ret
      exact ⟨rfl, _, rfl⟩

end Go.Proofs.YtpidafpaffpnaaaGreatDoor.Pw
namespace Go.Proofs.YtpidafpaffpnaaaGreatDoor
open Go.RowKit

theorem tx_len (s : ByteArray) : (Kq.tx s).length = 8 + s.size := by
  unfold Kq.tx Pk.txt
  rw [List.length_append, Kq.size_data]
  rfl
theorem flat_len : ∀ (l : List ByteArray), (∀ s ∈ l, s.size ≤ 150) → (l.flatMap Kq.tx).length ≤ l.length * 158
  | [], _ => Nat.le_refl _
  | s :: l, h => by
    have h1 := h s (by simp)
    have h2 := flat_len l (fun x hx => h x (by simp [hx]))
    rw [List.flatMap_cons, List.length_append, tx_len, List.length_cons]
    omega
set_option linter.unusedSimpArgs false in
set_option maxRecDepth 20000 in
set_option maxHeartbeats 8000000 in
theorem refPut_any10 (v0 : Value) (xs : List UInt8) (n : Kq.Kn) (a : Option Addr) (N c : Nat) (w : World) (hv : Bs w v0 xs) (hs : Ss w (.slice a N c) n.names) (hN : n.names.length ≤ 1000) (hl : ∀ s ∈ n.names, s.size ≤ 150) (hd : n.data.size ≤ 2000) (hx : xs.length + n.names.length * 158 ≤ 170000) :
    Calls Tryz.prog 94 #[v0, kv n (.slice a N c)] w fun e w' => ∃ u, e = .returned u ∧ Bs w' u (xs ++ Kq.bytes n) ∧ Below w.heap.size w w' := by
  have HA : Hid (N = n.names.length ∧ (∀ (j : Nat) s, n.names[j]? = some s → ∃ g o, a = some ⟨g, o, none⟩ ∧ w.cell? ⟨g, o + j, none⟩ = some (.string s)) ∧ N ≤ 1000 ∧ (∀ s ∈ n.names, s.size ≤ 150) ∧ n.data.size ≤ 2000 ∧ xs.length + N * 158 ≤ 170000) := by
    obtain ⟨a', N', c', e, h1, h2⟩ := hs
    simp only [Value.slice.injEq] at e
    obtain ⟨rfl, rfl, rfl⟩ := e
    exact ⟨h1, h2, by omega, hl, hd, by rw [h1]; exact hx⟩
  have hN1 : N ≤ 1000 := HA.out.2.2.1
  have hal := (Below.refl _ w).alloc (Nat.le_refl _) (.cells (k10 n (.slice a N c)).toArray 50)
  have HS0 : Hid (Bs (w.alloc (.cells #[.int .i64 n.made, .int .i64 n.changed, .int .i64 n.ver, .int .i64 n.kids, .int .i64 n.owner, .int .i64 n.len, .int .i64 n.cnt, .string n.data, .int .i64 n.next, .slice a N c] 50)) v0 xs) := hv.below hal
  have HX0 : Hid (Cb (w.alloc (.cells #[.int .i64 n.made, .int .i64 n.changed, .int .i64 n.ver, .int .i64 n.kids, .int .i64 n.owner, .int .i64 n.len, .int .i64 n.cnt, .string n.data, .int .i64 n.next, .slice a N c] 50)) w.heap.size (k10 n (.slice a N c)) 50) := Cb.made w _ _
  have HB0 : Hid (Below w.heap.size w (w.alloc (.cells #[.int .i64 n.made, .int .i64 n.changed, .int .i64 n.ver, .int .i64 n.kids, .int .i64 n.owner, .int .i64 n.len, .int .i64 n.cnt, .string n.data, .int .i64 n.next, .slice a N c] 50))) := hal
  have H8 : Hid (∀ z, (Pk.be8 z).length = 8) := fun _ => rfl
  clear hv hs hN hl hd hx hal
  unfold kv
  go_enter Tryz.func94, Tryz.ntmps94
  go_upto_region 1 with fail
  generalize (w.alloc (.cells #[.int .i64 n.made, .int .i64 n.changed, .int .i64 n.ver, .int .i64 n.kids, .int .i64 n.owner, .int .i64 n.len, .int .i64 n.cnt, .string n.data, .int .i64 n.next, .slice a N c] 50)) = w0 at *
  have kk0 := ten_cells HX0.out
  go_wp2
  go_region_held3 (fun w' => w'.cell? ⟨w.heap.size, 0, none⟩ = some (.int .i64 n.made) ∧ w'.cell? ⟨w.heap.size, 1, none⟩ = some (.int .i64 n.changed) ∧ w'.cell? ⟨w.heap.size, 2, none⟩ = some (.int .i64 n.ver) ∧ w'.cell? ⟨w.heap.size, 3, none⟩ = some (.int .i64 n.kids) ∧ w'.cell? ⟨w.heap.size, 4, none⟩ = some (.int .i64 n.owner) ∧ w'.cell? ⟨w.heap.size, 5, none⟩ = some (.int .i64 n.len) ∧ w'.cell? ⟨w.heap.size, 6, none⟩ = some (.int .i64 n.cnt) ∧ w'.cell? ⟨w.heap.size, 7, none⟩ = some (.string n.data) ∧ w'.cell? ⟨w.heap.size, 8, none⟩ = some (.int .i64 n.next) ∧ w'.cell? ⟨w.heap.size, 9, none⟩ = some (.slice a N c)) (first | exact kk0 | exact kk1 | exact kk2) (first
    | (go_at_call_of 93 v0; refine (Pw.refI64_bs v0 xs n.made _ (HS0.out.below (Below.refl _ _).drew) (by have h1 := HA.out; (try simp only [List.length_append, H8.out, tx_len]); omega)).mono ?_; rintro e w1 ⟨v1, rfl, hbs, hb0⟩; have hb := below_drew hb0; have HS1 : Hid (Bs w1 v1 (xs ++ Pk.be8 n.made)) := hbs; have HX1 : Hid (Cb w1 w.heap.size (k10 n (.slice a N c)) 50) := HX0.out.below hb; have HB1 : Hid (Below w.heap.size w w1) := HB0.out.trans (hb.mono HB0.out.size); have kk1 := ten_cells HX1.out; clear hbs hb0 hb)
    | (go_at_call_of 93 v1; refine (Pw.refI64_bs v1 (xs ++ Pk.be8 n.made) n.changed _ HS1.out (by have h1 := HA.out; (try simp only [List.length_append, H8.out, tx_len]); omega)).mono ?_; rintro e w2 ⟨v2, rfl, hbs, hb0⟩; have hb := hb0; have HS2 : Hid (Bs w2 v2 ((xs ++ Pk.be8 n.made) ++ Pk.be8 n.changed)) := hbs; have HX2 : Hid (Cb w2 w.heap.size (k10 n (.slice a N c)) 50) := HX1.out.below hb; have HB2 : Hid (Below w.heap.size w w2) := HB1.out.trans (hb.mono HB1.out.size); have kk2 := ten_cells HX2.out; clear hbs hb0 hb))
  clear kk0 kk1 kk2
  have kk2 := ten_cells HX2.out
  go_wp2
  go_region_held3 (fun w' => w'.cell? ⟨w.heap.size, 0, none⟩ = some (.int .i64 n.made) ∧ w'.cell? ⟨w.heap.size, 1, none⟩ = some (.int .i64 n.changed) ∧ w'.cell? ⟨w.heap.size, 2, none⟩ = some (.int .i64 n.ver) ∧ w'.cell? ⟨w.heap.size, 3, none⟩ = some (.int .i64 n.kids) ∧ w'.cell? ⟨w.heap.size, 4, none⟩ = some (.int .i64 n.owner) ∧ w'.cell? ⟨w.heap.size, 5, none⟩ = some (.int .i64 n.len) ∧ w'.cell? ⟨w.heap.size, 6, none⟩ = some (.int .i64 n.cnt) ∧ w'.cell? ⟨w.heap.size, 7, none⟩ = some (.string n.data) ∧ w'.cell? ⟨w.heap.size, 8, none⟩ = some (.int .i64 n.next) ∧ w'.cell? ⟨w.heap.size, 9, none⟩ = some (.slice a N c)) (first | exact kk2 | exact kk3 | exact kk4) (first
    | (go_at_call_of 93 v2; refine (Pw.refI64_bs v2 ((xs ++ Pk.be8 n.made) ++ Pk.be8 n.changed) n.ver _ (HS2.out.below (Below.refl _ _).drew) (by have h1 := HA.out; (try simp only [List.length_append, H8.out, tx_len]); omega)).mono ?_; rintro e w3 ⟨v3, rfl, hbs, hb0⟩; have hb := below_drew hb0; have HS3 : Hid (Bs w3 v3 (((xs ++ Pk.be8 n.made) ++ Pk.be8 n.changed) ++ Pk.be8 n.ver)) := hbs; have HX3 : Hid (Cb w3 w.heap.size (k10 n (.slice a N c)) 50) := HX2.out.below hb; have HB3 : Hid (Below w.heap.size w w3) := HB2.out.trans (hb.mono HB2.out.size); have kk3 := ten_cells HX3.out; clear hbs hb0 hb)
    | (go_at_call_of 93 v3; refine (Pw.refI64_bs v3 (((xs ++ Pk.be8 n.made) ++ Pk.be8 n.changed) ++ Pk.be8 n.ver) n.kids _ HS3.out (by have h1 := HA.out; (try simp only [List.length_append, H8.out, tx_len]); omega)).mono ?_; rintro e w4 ⟨v4, rfl, hbs, hb0⟩; have hb := hb0; have HS4 : Hid (Bs w4 v4 ((((xs ++ Pk.be8 n.made) ++ Pk.be8 n.changed) ++ Pk.be8 n.ver) ++ Pk.be8 n.kids)) := hbs; have HX4 : Hid (Cb w4 w.heap.size (k10 n (.slice a N c)) 50) := HX3.out.below hb; have HB4 : Hid (Below w.heap.size w w4) := HB3.out.trans (hb.mono HB3.out.size); have kk4 := ten_cells HX4.out; clear hbs hb0 hb))
  clear kk2 kk3 kk4
  have kk4 := ten_cells HX4.out
  go_wp2
  go_region_held3 (fun w' => w'.cell? ⟨w.heap.size, 0, none⟩ = some (.int .i64 n.made) ∧ w'.cell? ⟨w.heap.size, 1, none⟩ = some (.int .i64 n.changed) ∧ w'.cell? ⟨w.heap.size, 2, none⟩ = some (.int .i64 n.ver) ∧ w'.cell? ⟨w.heap.size, 3, none⟩ = some (.int .i64 n.kids) ∧ w'.cell? ⟨w.heap.size, 4, none⟩ = some (.int .i64 n.owner) ∧ w'.cell? ⟨w.heap.size, 5, none⟩ = some (.int .i64 n.len) ∧ w'.cell? ⟨w.heap.size, 6, none⟩ = some (.int .i64 n.cnt) ∧ w'.cell? ⟨w.heap.size, 7, none⟩ = some (.string n.data) ∧ w'.cell? ⟨w.heap.size, 8, none⟩ = some (.int .i64 n.next) ∧ w'.cell? ⟨w.heap.size, 9, none⟩ = some (.slice a N c)) (first | exact kk4 | exact kk5 | exact kk6) (first
    | (go_at_call_of 93 v4; refine (Pw.refI64_bs v4 ((((xs ++ Pk.be8 n.made) ++ Pk.be8 n.changed) ++ Pk.be8 n.ver) ++ Pk.be8 n.kids) n.owner _ (HS4.out.below (Below.refl _ _).drew) (by have h1 := HA.out; (try simp only [List.length_append, H8.out, tx_len]); omega)).mono ?_; rintro e w5 ⟨v5, rfl, hbs, hb0⟩; have hb := below_drew hb0; have HS5 : Hid (Bs w5 v5 (((((xs ++ Pk.be8 n.made) ++ Pk.be8 n.changed) ++ Pk.be8 n.ver) ++ Pk.be8 n.kids) ++ Pk.be8 n.owner)) := hbs; have HX5 : Hid (Cb w5 w.heap.size (k10 n (.slice a N c)) 50) := HX4.out.below hb; have HB5 : Hid (Below w.heap.size w w5) := HB4.out.trans (hb.mono HB4.out.size); have kk5 := ten_cells HX5.out; clear hbs hb0 hb)
    | (go_at_call_of 93 v5; refine (Pw.refI64_bs v5 (((((xs ++ Pk.be8 n.made) ++ Pk.be8 n.changed) ++ Pk.be8 n.ver) ++ Pk.be8 n.kids) ++ Pk.be8 n.owner) n.next _ HS5.out (by have h1 := HA.out; (try simp only [List.length_append, H8.out, tx_len]); omega)).mono ?_; rintro e w6 ⟨v6, rfl, hbs, hb0⟩; have hb := hb0; have HS6 : Hid (Bs w6 v6 ((((((xs ++ Pk.be8 n.made) ++ Pk.be8 n.changed) ++ Pk.be8 n.ver) ++ Pk.be8 n.kids) ++ Pk.be8 n.owner) ++ Pk.be8 n.next)) := hbs; have HX6 : Hid (Cb w6 w.heap.size (k10 n (.slice a N c)) 50) := HX5.out.below hb; have HB6 : Hid (Below w.heap.size w w6) := HB5.out.trans (hb.mono HB5.out.size); have kk6 := ten_cells HX6.out; clear hbs hb0 hb))
  clear kk4 kk5 kk6
  have kk6 := ten_cells HX6.out
  go_wp2
  go_region_held3 (fun w' => w'.cell? ⟨w.heap.size, 0, none⟩ = some (.int .i64 n.made) ∧ w'.cell? ⟨w.heap.size, 1, none⟩ = some (.int .i64 n.changed) ∧ w'.cell? ⟨w.heap.size, 2, none⟩ = some (.int .i64 n.ver) ∧ w'.cell? ⟨w.heap.size, 3, none⟩ = some (.int .i64 n.kids) ∧ w'.cell? ⟨w.heap.size, 4, none⟩ = some (.int .i64 n.owner) ∧ w'.cell? ⟨w.heap.size, 5, none⟩ = some (.int .i64 n.len) ∧ w'.cell? ⟨w.heap.size, 6, none⟩ = some (.int .i64 n.cnt) ∧ w'.cell? ⟨w.heap.size, 7, none⟩ = some (.string n.data) ∧ w'.cell? ⟨w.heap.size, 8, none⟩ = some (.int .i64 n.next) ∧ w'.cell? ⟨w.heap.size, 9, none⟩ = some (.slice a N c)) (first | exact kk6 | exact kk7 | exact kk8) (first
    | (go_at_call_of 95 v6; refine (Pw.refTxt_any v6 ((((((xs ++ Pk.be8 n.made) ++ Pk.be8 n.changed) ++ Pk.be8 n.ver) ++ Pk.be8 n.kids) ++ Pk.be8 n.owner) ++ Pk.be8 n.next) n.data _ (HS6.out.below (Below.refl _ _).drew) (by have h1 := HA.out; (try simp only [List.length_append, H8.out, tx_len]); omega) (by have h1 := HA.out; omega)).mono ?_; rintro e w7 ⟨v7, rfl, hbs, hb0⟩; have hb := below_drew hb0; have HS7 : Hid (Bs w7 v7 (((((((xs ++ Pk.be8 n.made) ++ Pk.be8 n.changed) ++ Pk.be8 n.ver) ++ Pk.be8 n.kids) ++ Pk.be8 n.owner) ++ Pk.be8 n.next) ++ Kq.tx n.data)) := hbs; have HX7 : Hid (Cb w7 w.heap.size (k10 n (.slice a N c)) 50) := HX6.out.below hb; have HB7 : Hid (Below w.heap.size w w7) := HB6.out.trans (hb.mono HB6.out.size); have kk7 := ten_cells HX7.out; clear hbs hb0 hb)
    | (go_at_call_of 93 v7; refine (Pw.refI64_bs v7 (((((((xs ++ Pk.be8 n.made) ++ Pk.be8 n.changed) ++ Pk.be8 n.ver) ++ Pk.be8 n.kids) ++ Pk.be8 n.owner) ++ Pk.be8 n.next) ++ Kq.tx n.data) (N : Int) _ HS7.out (by have h1 := HA.out; (try simp only [List.length_append, H8.out, tx_len]); omega)).mono ?_; rintro e w8 ⟨v8, rfl, hbs, hb0⟩; have hb := hb0; have HS8 : Hid (Bs w8 v8 ((((((((xs ++ Pk.be8 n.made) ++ Pk.be8 n.changed) ++ Pk.be8 n.ver) ++ Pk.be8 n.kids) ++ Pk.be8 n.owner) ++ Pk.be8 n.next) ++ Kq.tx n.data) ++ Pk.be8 (N : Int))) := hbs; have HX8 : Hid (Cb w8 w.heap.size (k10 n (.slice a N c)) 50) := HX7.out.below hb; have HB8 : Hid (Below w.heap.size w w8) := HB7.out.trans (hb.mono HB7.out.size); have kk8 := ten_cells HX8.out; clear hbs hb0 hb))
  clear kk6 kk7 kk8
  have HP : Hid (((((((((xs ++ Pk.be8 n.made) ++ Pk.be8 n.changed) ++ Pk.be8 n.ver) ++ Pk.be8 n.kids) ++ Pk.be8 n.owner) ++ Pk.be8 n.next) ++ Kq.tx n.data) ++ Pk.be8 (N : Int)).length + N * 158 ≤ 173000) := by
    have h1 := HA.out
    have e : ((((((((xs ++ Pk.be8 n.made) ++ Pk.be8 n.changed) ++ Pk.be8 n.ver) ++ Pk.be8 n.kids) ++ Pk.be8 n.owner) ++ Pk.be8 n.next) ++ Kq.tx n.data) ++ Pk.be8 (N : Int)).length + N * 158 ≤ 173000 := by (try simp only [List.length_append, H8.out, tx_len]); omega
    exact e
  have HE : Hid (xs ++ Kq.bytes n = ((((((((xs ++ Pk.be8 n.made) ++ Pk.be8 n.changed) ++ Pk.be8 n.ver) ++ Pk.be8 n.kids) ++ Pk.be8 n.owner) ++ Pk.be8 n.next) ++ Kq.tx n.data) ++ Pk.be8 (N : Int)) ++ n.names.flatMap Kq.tx) := by
    have e : xs ++ Kq.bytes n = ((((((((xs ++ Pk.be8 n.made) ++ Pk.be8 n.changed) ++ Pk.be8 n.ver) ++ Pk.be8 n.kids) ++ Pk.be8 n.owner) ++ Pk.be8 n.next) ++ Kq.tx n.data) ++ Pk.be8 (N : Int)) ++ n.names.flatMap Kq.tx := by
      rw [HA.out.1]
      unfold Kq.bytes
      simp only [List.append_assoc]
    exact e
  generalize ((((((((xs ++ Pk.be8 n.made) ++ Pk.be8 n.changed) ++ Pk.be8 n.ver) ++ Pk.be8 n.kids) ++ Pk.be8 n.owner) ++ Pk.be8 n.next) ++ Kq.tx n.data) ++ Pk.be8 (N : Int)) = ps at *
  obtain ⟨_, _, _, _, _, _, _, _, _, c9⟩ := ten_cells HX8.out
  go_wp2
  go_loopw [0, 5] (fun f i wr => ∃ k : Nat, k ≤ N ∧ i = .int .i64 (k : Int) ∧ Bs wr f (ps ++ (n.names.take k).flatMap Kq.tx) ∧ Below w8.heap.size w8 wr) (fun _ i _ => N + 1 - (intOf i).toNat)
  case atStart => exact ⟨0, Nat.zero_le _, rfl, by simpa using HS8.out, Below.refl _ _⟩
  case round =>
    obtain ⟨k, hk, rfl, hb, hbl⟩ := hrel
    have HR : Hid (Bs wr u0 (ps ++ (n.names.take k).flatMap Kq.tx) ∧ Below w8.heap.size w8 wr) := ⟨hb, hbl⟩
    have HBR : Hid (Below w.heap.size w wr) := HB8.out.trans (hbl.mono HB8.out.size)
    have d9 : wr.cell? ⟨w.heap.size, 9, none⟩ = some (.slice a N c) := Below.kept hbl c9
    clear hb hbl c9
    have i1 : (0 : Int) ≤ (k : Int) := by omega
    by_cases hlt : k < N
    · have hlt' : (k : Int) < (N : Int) := by omega
      have hwk : IntKind.wrap .i64 ((k : Int) + 1) = (k : Int) + 1 := by rw [IntKind.wrap_i64]; omega
      obtain ⟨x, hx⟩ : ∃ x, n.names[k]? = some x := ⟨_, List.getElem?_eq_getElem (by have := HA.out.1; omega)⟩
      have HX : Hid (n.names[k]? = some x ∧ x.size ≤ 150) := ⟨hx, HA.out.2.2.2.1 x (List.mem_of_getElem? hx)⟩
      have HLN : Hid ((ps ++ (n.names.take k).flatMap Kq.tx).length ≤ 175000) := by
        have h1 := flat_len (n.names.take k) (fun s hs => HA.out.2.2.2.1 s (List.mem_of_mem_take hs))
        have h2 : (n.names.take k).length ≤ k := List.length_take_le k _
        have h3 := HP.out
        have e : (ps ++ (n.names.take k).flatMap Kq.tx).length ≤ 175000 := by rw [List.length_append]; omega
        exact e
      obtain ⟨g, o, hav, lx⟩ := HA.out.2.1 k x hx
      subst hav
      have lx' : wr.cell? ⟨g, o + k, none⟩ = some (.string x) := Below.kept HBR.out lx
      clear lx hx
      go_wp2_with fail
      refine (Pw.refTxt_any u0 (ps ++ (n.names.take k).flatMap Kq.tx) x _ HR.out.1 (by have h1 := HLN.out; omega) (by have h1 := HX.out.2; omega)).mono ?_
      rintro e wt ⟨vt, rfl, hbs, hb⟩
      have HT : Hid (Bs wt vt (ps ++ (n.names.take (k + 1)).flatMap Kq.tx) ∧ Below w8.heap.size w8 wt) := by
        refine ⟨?_, HR.out.2.trans (hb.mono HR.out.2.size)⟩
        rw [List.take_add_one, HX.out.1, List.flatMap_append, ← List.append_assoc]
        simp only [Option.toList_some, List.flatMap_cons, List.flatMap_nil, List.append_nil]
        exact hbs
      clear hbs hb d9 lx'
      go_wp2_with fail
      go_roundw
      case rel => exact ⟨k + 1, by omega, by go_num, HT.out.1, HT.out.2⟩
      case measure => simp [intOf]; omega
    · have hlt' : ¬ (k : Int) < (N : Int) := by omega
      have HF : Hid (Bs wr u0 (ps ++ n.names.flatMap Kq.tx)) := by
        have h := HR.out.1
        rw [List.take_of_length_le (by have := HA.out.1; omega)] at h
        exact h
      go_wp2
      go_ret
      exact ⟨_, rfl, by rw [HE.out]; exact HF.out, HBR.out⟩
end Go.Proofs.YtpidafpaffpnaaaGreatDoor
namespace Go.Proofs.YtpidafpaffpnaaaGreatDoor
open Go.RowKit

theorem rC_in (m : Int) (ys : List UInt8) (bad : Bool) (hm : 0 ≤ m) : 0 ≤ (Pk.rC m ys bad).1 ∧ (Pk.rC m ys bad).1 ≤ m := by
  unfold Pk.rC
  split <;> simp_all <;> omega
theorem grown_on {w w1 w2 : World} {q r : Nat} (h : w.grownBy w1 (some q)) (h2 : w1.grownBy w2 (some r)) (hr : r = q ∨ w.heap.size ≤ r) : w.grownBy w2 (some q) :=
  ⟨h2.os.trans h.os, h2.tape.trans h.tape, h2.output.trans h.output, Nat.le_trans h.size h2.size, fun k hk hq => (h2.block k (Nat.lt_of_lt_of_le hk h.size) (fun e => by
    rcases hr with h | h
    · exact hq (by rw [← h]; exact e)
    · simp only [Option.some.injEq] at e
      omega)).trans (h.block k hk hq)⟩

/-- The Reader at qr, the node at qn, the answer's place at qz. -/
structure GetS10 (w wr : World) (qz qn qr : Nat) (v : Value) (b ys : List UInt8) (bad : Bool) (n : Kq.Kn) (u : Value) : Prop where
  rf : Pw.Rf wr qr v b ys bad
  node : Cb wr qn (k10 n u) 50
  ans : Cb wr qz (k10 Kq.zero (.slice none 0 0)) 50
  own : wr.ownsRow w.heap.size 9 1 u n.names.length (sc n.names)
  hz : w.heap.size ≤ qz
  hn : w.heap.size ≤ qn
  ne : qn ≠ qz
  hr : qr < w.heap.size
  vb : 0 < b.length → ∀ r, v.ownBlock = some r → r < w.heap.size
  gr : w.grownBy wr (some qr)
section
variable {w wr w' : World} {qz qn qr : Nat} {v u : Value} {b ys ys' : List UInt8} {bad bad' : Bool} {n n' : Kq.Kn}
/-- The Reader has read. -/
theorem GetS10.read (h : GetS10 w wr qz qn qr v b ys bad n u) (hr : Pw.Rf w' qr v b ys' bad') (hg : wr.grownBy w' (some qr)) : GetS10 w w' qz qn qr v b ys' bad' n u := by
  have h1 := h.hr
  have h2 := h.hz
  have h3 := h.hn
  exact ⟨hr, h.node.keep (hg.block _ h.node.lt (fun e => by simp at e; omega)), h.ans.keep (hg.block _ h.ans.lt (fun e => by simp at e; omega)), row_stays h.own (fun k hk => hg.block k (h.own.lt k hk).2 (fun e => by have := (h.own.lt k hk).1; simp at e; omega)), h2, h3, h.ne, h1, h.vb, grown_on h.gr hg (Or.inl rfl)⟩
/-- Nothing of it was touched. -/
theorem GetS10.same (h : GetS10 w wr qz qn qr v b ys bad n u) (hg : ∀ r, wr.grownBy w' (some r)) : GetS10 w w' qz qn qr v b ys bad n u := by
  have h1 := h.hr
  have h3 := h.hn
  exact h.read (h.rf.grown (hg qn) (by omega) (fun hb e => by have := h.vb hb _ e; omega)) (hg qr)
theorem GetS10.names (h : GetS10 w wr qz qn qr v b ys bad n u) : Nm wr u n.names := Nm.of_row h.own
/-- The node was written. -/
theorem GetS10.set (h : GetS10 w wr qz qn qr v b ys bad n u) (i : Nat) (x : Value) (hk : (k10 n u).set i x = k10 n' u) (hn : n'.names = n.names) : GetS10 w (wr.setCell ⟨qn, i, none⟩ x) qz qn qr v b ys bad n' u := by
  have h1 := h.hr
  have h2 := h.hz
  have h3 := h.hn
  have hg := grownBy_setCell wr ⟨qn, i, none⟩ x
  refine ⟨h.rf.grown hg (by show qr ≠ qn; omega) (fun hb e => by have := h.vb hb _ e; simp at this; omega), hk ▸ h.node.set i x, h.ans.keep (RowKit.Below.heap_setCell _ _ _ _ (fun e => h.ne e.symm)), ?_, h2, h3, h.ne, h1, h.vb, grown_on h.gr hg (Or.inr h3)⟩
  rw [hn]
  exact row_stays h.own (fun k hk2 => RowKit.Below.heap_setCell _ _ _ _ (fun e => h.node.apart h.own (by decide) (by rw [hk2]; exact congrArg some e)))
/-- A name is behind the others. -/
theorem GetS10.more {u' : Value} {l : List ByteArray} (h : GetS10 w wr qz qn qr v b ys bad n u) (hg : wr.grownBy w' u.ownBlock) (ho : w'.ownsRow w.heap.size 9 1 u' l.length (sc l)) : GetS10 w (w'.setCell ⟨qn, 9, none⟩ u') qz qn qr v b ys bad { n with names := l } u' := by
  have h1 := h.hr
  have h2 := h.hz
  have h3 := h.hn
  have hne := h.node.apart h.own (by decide)
  have hnz := h.ans.apart h.own (by decide)
  have hs := grownBy_setCell w' ⟨qn, 9, none⟩ u'
  have hnode : Cb w' qn (k10 n u) 50 := h.node.keep (hg.block _ h.node.lt (fun e => hne e.symm))
  have hub : ∀ k, u.ownBlock = some k → w.heap.size ≤ k := fun k hk => (h.own.lt k hk).1
  have hrf : Pw.Rf w' qr v b ys bad := by
    cases hu : u.ownBlock with
    | none =>
      rw [hu] at hg
      exact h.rf.grown (r := w'.heap.size + wr.heap.size + qr + 1 + w.heap.size) ⟨hg.os, hg.tape, hg.output, hg.size, fun k hk _ => hg.block k hk (by simp)⟩ (by omega) (fun hb e => by have := h.vb hb _ e; omega)
    | some k =>
      rw [hu] at hg
      have := hub k hu
      exact h.rf.grown hg (by omega) (fun hb e => by have := h.vb hb _ e; omega)
  refine ⟨hrf.grown hs (by show qr ≠ qn; omega) (fun hb e => by have := h.vb hb _ e; simp at this; omega), hnode.set 9 u', (h.ans.keep (hg.block _ h.ans.lt (fun e => hnz e.symm))).keep (RowKit.Below.heap_setCell _ _ _ _ (fun e => h.ne e.symm)), row_stays ho (fun k hk2 => RowKit.Below.heap_setCell _ _ _ _ (fun e => hnode.apart ho (by decide) (by rw [hk2]; exact congrArg some e))), h2, h3, h.ne, h1, h.vb, ?_⟩
  refine ⟨hs.os.trans (hg.os.trans h.gr.os), hs.tape.trans (hg.tape.trans h.gr.tape), hs.output.trans (hg.output.trans h.gr.output), Nat.le_trans h.gr.size (Nat.le_trans hg.size hs.size), fun k hk hq => ?_⟩
  rw [RowKit.Below.heap_setCell _ _ _ _ (by show k ≠ qn; omega), hg.block k (Nat.lt_of_lt_of_le hk h.gr.size) (fun e => by have := hub k e.symm; omega)]
  exact h.gr.block k hk hq
end
end Go.Proofs.YtpidafpaffpnaaaGreatDoor
namespace Go.Proofs.YtpidafpaffpnaaaGreatDoor
open Go.RowKit

/-- What it leaves: the reader's block, and new ones. -/
def RGetPost10 (w : World) (q : Nat) (v : Value) (b ys : List UInt8) (bad : Bool) (e : Ending) (w' : World) : Prop :=
  (Kq.Good ys bad → ∃ a L c, e = .returned (.tuple #[kv (Kq.raw ys bad).1 (.slice a L c), .bool true]) ∧ Nm w' (.slice a L c) (Kq.raw ys bad).1.names ∧ Pw.Rf w' q v b (Kq.raw ys bad).2.1 false) ∧
  (¬ Kq.Good ys bad → e = .returned (.tuple #[kv Kq.zero (.slice none 0 0), .bool false])) ∧ w.grownBy w' (some q)
theorem rdNs_bad (k : Nat) (ys : List UInt8) : Kq.rdNs k ys true = ([], ys, true) := by
  cases k <;> rfl
theorem own_lt10 {w : World} {v : Value} {b : List UInt8} (hb : Bs w v b) (h : 0 < b.length) (r : Nat) (e : v.ownBlock = some r) : r < w.heap.size := by
  obtain ⟨g, o, n, c, rfl, _, _, hc⟩ := hb.plain h
  have hlt := World.block_lt_of_cell? w _ (hc 0 b[0] (List.getElem?_eq_getElem h))
  simp only [Value.ownBlock, Option.some.injEq] at e
  simp only [] at hlt
  omega
set_option linter.unusedSimpArgs false in
set_option maxRecDepth 20000 in
set_option maxHeartbeats 16000000 in
theorem refGet_any10 (qr : Nat) (v : Value) (b ys : List UInt8) (bad : Bool) (w : World) (h : Pw.Rf w qr v b ys bad) :
    Calls Tryz.prog 99 #[dptr qr] w (RGetPost10 w qr v b ys bad) := by
  obtain ⟨z0, hz0⟩ : ∃ z, z = (Pk.rI ys bad).1 := ⟨_, rfl⟩
  obtain ⟨y0, hy0⟩ : ∃ z, z = (Pk.rI ys bad).2.1 := ⟨_, rfl⟩
  obtain ⟨b0, hb0⟩ : ∃ z, z = (Pk.rI ys bad).2.2 := ⟨_, rfl⟩
  have HE0 : Hid (z0 = (Pk.rI ys bad).1 ∧ y0 = (Pk.rI ys bad).2.1 ∧ b0 = (Pk.rI ys bad).2.2) := ⟨hz0, hy0, hb0⟩
  clear hz0 hy0 hb0
  obtain ⟨z1, hz1⟩ : ∃ z, z = (Pk.rI y0 b0).1 := ⟨_, rfl⟩
  obtain ⟨y1, hy1⟩ : ∃ z, z = (Pk.rI y0 b0).2.1 := ⟨_, rfl⟩
  obtain ⟨b1, hb1⟩ : ∃ z, z = (Pk.rI y0 b0).2.2 := ⟨_, rfl⟩
  have HE1 : Hid (z1 = (Pk.rI y0 b0).1 ∧ y1 = (Pk.rI y0 b0).2.1 ∧ b1 = (Pk.rI y0 b0).2.2) := ⟨hz1, hy1, hb1⟩
  clear hz1 hy1 hb1
  obtain ⟨z2, hz2⟩ : ∃ z, z = (Pk.rC 2147483647 y1 b1).1 := ⟨_, rfl⟩
  obtain ⟨y2, hy2⟩ : ∃ z, z = (Pk.rC 2147483647 y1 b1).2.1 := ⟨_, rfl⟩
  obtain ⟨b2, hb2⟩ : ∃ z, z = (Pk.rC 2147483647 y1 b1).2.2 := ⟨_, rfl⟩
  have HE2 : Hid (z2 = (Pk.rC 2147483647 y1 b1).1 ∧ y2 = (Pk.rC 2147483647 y1 b1).2.1 ∧ b2 = (Pk.rC 2147483647 y1 b1).2.2) := ⟨hz2, hy2, hb2⟩
  clear hz2 hy2 hb2
  obtain ⟨z3, hz3⟩ : ∃ z, z = (Pk.rC 2147483647 y2 b2).1 := ⟨_, rfl⟩
  obtain ⟨y3, hy3⟩ : ∃ z, z = (Pk.rC 2147483647 y2 b2).2.1 := ⟨_, rfl⟩
  obtain ⟨b3, hb3⟩ : ∃ z, z = (Pk.rC 2147483647 y2 b2).2.2 := ⟨_, rfl⟩
  have HE3 : Hid (z3 = (Pk.rC 2147483647 y2 b2).1 ∧ y3 = (Pk.rC 2147483647 y2 b2).2.1 ∧ b3 = (Pk.rC 2147483647 y2 b2).2.2) := ⟨hz3, hy3, hb3⟩
  clear hz3 hy3 hb3
  obtain ⟨z4, hz4⟩ : ∃ z, z = (Pk.rI y3 b3).1 := ⟨_, rfl⟩
  obtain ⟨y4, hy4⟩ : ∃ z, z = (Pk.rI y3 b3).2.1 := ⟨_, rfl⟩
  obtain ⟨b4, hb4⟩ : ∃ z, z = (Pk.rI y3 b3).2.2 := ⟨_, rfl⟩
  have HE4 : Hid (z4 = (Pk.rI y3 b3).1 ∧ y4 = (Pk.rI y3 b3).2.1 ∧ b4 = (Pk.rI y3 b3).2.2) := ⟨hz4, hy4, hb4⟩
  clear hz4 hy4 hb4
  obtain ⟨z5, hz5⟩ : ∃ z, z = (Pk.rC 2147483647 y4 b4).1 := ⟨_, rfl⟩
  obtain ⟨y5, hy5⟩ : ∃ z, z = (Pk.rC 2147483647 y4 b4).2.1 := ⟨_, rfl⟩
  obtain ⟨b5, hb5⟩ : ∃ z, z = (Pk.rC 2147483647 y4 b4).2.2 := ⟨_, rfl⟩
  have HE5 : Hid (z5 = (Pk.rC 2147483647 y4 b4).1 ∧ y5 = (Pk.rC 2147483647 y4 b4).2.1 ∧ b5 = (Pk.rC 2147483647 y4 b4).2.2) := ⟨hz5, hy5, hb5⟩
  clear hz5 hy5 hb5
  obtain ⟨t6, ht6⟩ : ∃ z, z = (Pk.rT 1000 y5 b5).1 := ⟨_, rfl⟩
  obtain ⟨z6, hz6⟩ : ∃ z : ByteArray, z = ⟨t6.toArray⟩ := ⟨_, rfl⟩
  obtain ⟨y6, hy6⟩ : ∃ z, z = (Pk.rT 1000 y5 b5).2.1 := ⟨_, rfl⟩
  obtain ⟨b6, hb6⟩ : ∃ z, z = (Pk.rT 1000 y5 b5).2.2 := ⟨_, rfl⟩
  have HE6 : Hid ((z6 = ⟨(Pk.rT 1000 y5 b5).1.toArray⟩ ∧ z6.size = (Pk.rT 1000 y5 b5).1.length) ∧ y6 = (Pk.rT 1000 y5 b5).2.1 ∧ b6 = (Pk.rT 1000 y5 b5).2.2) := ⟨⟨by rw [hz6, ht6], by rw [hz6, ht6]; rfl⟩, hy6, hb6⟩
  clear hz6 ht6 hy6 hb6
  obtain ⟨K, hK⟩ : ∃ c : Nat, (c : Int) = (Pk.rC 500 y6 b6).1 ∧ c ≤ 500 := ⟨(Pk.rC 500 y6 b6).1.toNat, by have := rC_in 500 y6 b6 (by decide); omega, by have := rC_in 500 y6 b6 (by decide); omega⟩
  obtain ⟨y7, hy7⟩ : ∃ z, z = (Pk.rC 500 y6 b6).2.1 := ⟨_, rfl⟩
  obtain ⟨b7, hb7⟩ : ∃ z, z = (Pk.rC 500 y6 b6).2.2 := ⟨_, rfl⟩
  have HE7 : Hid (((K : Int) = (Pk.rC 500 y6 b6).1) ∧ y7 = (Pk.rC 500 y6 b6).2.1 ∧ b7 = (Pk.rC 500 y6 b6).2.2) := ⟨hK.1, hy7, hb7⟩
  have hK5 : K ≤ 500 := hK.2
  clear hK hy7 hb7
  obtain ⟨qz, hqz⟩ : ∃ z, z = w.heap.size := ⟨_, rfl⟩
  obtain ⟨qn, hqn⟩ : ∃ z, z = w.heap.size + 1 := ⟨_, rfl⟩
  have HS0 : Hid (GetS10 w ((w.alloc (.cells #[.int .i64 0, .int .i64 0, .int .i64 0, .int .i64 0, .int .i64 0, .int .i64 0, .int .i64 0, .string ⟨#[]⟩, .int .i64 0, .slice none 0 0] 50)).alloc (.cells #[.int .i64 0, .int .i64 0, .int .i64 0, .int .i64 0, .int .i64 0, .int .i64 0, .int .i64 0, .string ⟨#[]⟩, .int .i64 0, .slice none 0 0] 50)) qz qn qr v b ys bad (⟨0, 0, 0, 0, 0, 0, 0, ⟨#[]⟩, 0, []⟩ : Kq.Kn) (.slice none 0 0)) := by
    have hg1 := World.grownBy_alloc w (.cells #[.int .i64 0, .int .i64 0, .int .i64 0, .int .i64 0, .int .i64 0, .int .i64 0, .int .i64 0, .string ⟨#[]⟩, .int .i64 0, .slice none 0 0] 50) (some w.heap.size)
    have hg2 := World.grownBy_alloc (w.alloc (.cells #[.int .i64 0, .int .i64 0, .int .i64 0, .int .i64 0, .int .i64 0, .int .i64 0, .int .i64 0, .string ⟨#[]⟩, .int .i64 0, .slice none 0 0] 50)) (.cells #[.int .i64 0, .int .i64 0, .int .i64 0, .int .i64 0, .int .i64 0, .int .i64 0, .int .i64 0, .string ⟨#[]⟩, .int .i64 0, .slice none 0 0] 50) (some (w.heap.size + 1))
    have hlt : qr < w.heap.size := World.block_lt_of_cell? w _ h.c0
    have hvb : 0 < b.length → ∀ r, v.ownBlock = some r → r < w.heap.size := fun hb r e => own_lt10 h.bs hb r e
    refine ⟨(h.grown hg1 (by omega) (fun hb e => by have := hvb hb _ e; omega)).grown hg2 (by omega) (fun hb e => by have := hvb hb _ e; omega), ?_, ?_, World.ownsRow_nil _ _ _ _, by omega, by omega, by omega, hlt, hvb, ?_⟩
    · have e := Cb.made (w.alloc (.cells #[.int .i64 0, .int .i64 0, .int .i64 0, .int .i64 0, .int .i64 0, .int .i64 0, .int .i64 0, .string ⟨#[]⟩, .int .i64 0, .slice none 0 0] 50)) [.int .i64 0, .int .i64 0, .int .i64 0, .int .i64 0, .int .i64 0, .int .i64 0, .int .i64 0, .string ⟨#[]⟩, .int .i64 0, .slice none 0 0] 50
      rw [World.size_alloc, ← hqn] at e
      exact e
    · rw [hqz]
      exact (Cb.made w [.int .i64 0, .int .i64 0, .int .i64 0, .int .i64 0, .int .i64 0, .int .i64 0, .int .i64 0, .string ⟨#[]⟩, .int .i64 0, .slice none 0 0] 50).keep (hg2.block _ (by simp) (by simp))
    · exact grown_on (grown_on ⟨rfl, rfl, rfl, Nat.le_refl _, fun _ _ _ => rfl⟩ hg1 (Or.inr (Nat.le_refl _))) hg2 (Or.inr (by omega))
  clear h
  unfold dptr
  go_enter Tryz.func99, Tryz.ntmps99
  go_wp2_with fail
  rw [← hqn, ← hqz]
  clear hqn hqz
  generalize ((w.alloc (.cells #[.int .i64 0, .int .i64 0, .int .i64 0, .int .i64 0, .int .i64 0, .int .i64 0, .int .i64 0, .string ⟨#[]⟩, .int .i64 0, .slice none 0 0] 50)).alloc (.cells #[.int .i64 0, .int .i64 0, .int .i64 0, .int .i64 0, .int .i64 0, .int .i64 0, .int .i64 0, .string ⟨#[]⟩, .int .i64 0, .slice none 0 0] 50)) = s0 at *
  refine (Pw.fI64_any qr _ b ys bad _ HS0.out.rf).mono ?_
  rintro e r0 ⟨rfl, hr, hg⟩
  rw [← HE0.out.1]
  rw [← HE0.out.2.1, ← HE0.out.2.2] at hr
  have HR0 : Hid (GetS10 w r0 qz qn qr v b y0 b0 (⟨0, 0, 0, 0, 0, 0, 0, ⟨#[]⟩, 0, []⟩ : Kq.Kn) (.slice none 0 0)) := HS0.out.read hr hg
  clear hr hg
  have cj : r0.cell? ⟨qn, 0, none⟩ = some (.int .i64 0) := HR0.out.node.cell 0
  have fj := HR0.out.node.free 0
  go_wp2_with fail
  have HS1 : Hid (GetS10 w (r0.setCell ⟨qn, 0, none⟩ (.int .i64 z0)) qz qn qr v b y0 b0 (⟨z0, 0, 0, 0, 0, 0, 0, ⟨#[]⟩, 0, []⟩ : Kq.Kn) (.slice none 0 0)) := HR0.out.set 0 _ rfl rfl
  clear cj fj
  generalize r0.setCell ⟨qn, 0, none⟩ (.int .i64 z0) = s1 at *
  refine (Pw.fI64_any qr _ b y0 b0 _ HS1.out.rf).mono ?_
  rintro e r1 ⟨rfl, hr, hg⟩
  rw [← HE1.out.1]
  rw [← HE1.out.2.1, ← HE1.out.2.2] at hr
  have HR1 : Hid (GetS10 w r1 qz qn qr v b y1 b1 (⟨z0, 0, 0, 0, 0, 0, 0, ⟨#[]⟩, 0, []⟩ : Kq.Kn) (.slice none 0 0)) := HS1.out.read hr hg
  clear hr hg
  have cj : r1.cell? ⟨qn, 1, none⟩ = some (.int .i64 0) := HR1.out.node.cell 1
  have fj := HR1.out.node.free 1
  go_wp2_with fail
  have HS2 : Hid (GetS10 w (r1.setCell ⟨qn, 1, none⟩ (.int .i64 z1)) qz qn qr v b y1 b1 (⟨z0, z1, 0, 0, 0, 0, 0, ⟨#[]⟩, 0, []⟩ : Kq.Kn) (.slice none 0 0)) := HR1.out.set 1 _ rfl rfl
  clear cj fj
  generalize r1.setCell ⟨qn, 1, none⟩ (.int .i64 z1) = s2 at *
  refine (Pw.fCount_any qr 2147483647 _ b y1 b1 _ HS2.out.rf).mono ?_
  rintro e r2 ⟨rfl, hr, hg⟩
  rw [← HE2.out.1]
  rw [← HE2.out.2.1, ← HE2.out.2.2] at hr
  have HR2 : Hid (GetS10 w r2 qz qn qr v b y2 b2 (⟨z0, z1, 0, 0, 0, 0, 0, ⟨#[]⟩, 0, []⟩ : Kq.Kn) (.slice none 0 0)) := HS2.out.read hr hg
  clear hr hg
  have cj : r2.cell? ⟨qn, 2, none⟩ = some (.int .i64 0) := HR2.out.node.cell 2
  have fj := HR2.out.node.free 2
  go_wp2_with fail
  have HS3 : Hid (GetS10 w (r2.setCell ⟨qn, 2, none⟩ (.int .i64 z2)) qz qn qr v b y2 b2 (⟨z0, z1, z2, 0, 0, 0, 0, ⟨#[]⟩, 0, []⟩ : Kq.Kn) (.slice none 0 0)) := HR2.out.set 2 _ rfl rfl
  clear cj fj
  generalize r2.setCell ⟨qn, 2, none⟩ (.int .i64 z2) = s3 at *
  refine (Pw.fCount_any qr 2147483647 _ b y2 b2 _ HS3.out.rf).mono ?_
  rintro e r3 ⟨rfl, hr, hg⟩
  rw [← HE3.out.1]
  rw [← HE3.out.2.1, ← HE3.out.2.2] at hr
  have HR3 : Hid (GetS10 w r3 qz qn qr v b y3 b3 (⟨z0, z1, z2, 0, 0, 0, 0, ⟨#[]⟩, 0, []⟩ : Kq.Kn) (.slice none 0 0)) := HS3.out.read hr hg
  clear hr hg
  have cj : r3.cell? ⟨qn, 3, none⟩ = some (.int .i64 0) := HR3.out.node.cell 3
  have fj := HR3.out.node.free 3
  go_wp2_with fail
  have HS4 : Hid (GetS10 w (r3.setCell ⟨qn, 3, none⟩ (.int .i64 z3)) qz qn qr v b y3 b3 (⟨z0, z1, z2, z3, 0, 0, 0, ⟨#[]⟩, 0, []⟩ : Kq.Kn) (.slice none 0 0)) := HR3.out.set 3 _ rfl rfl
  clear cj fj
  generalize r3.setCell ⟨qn, 3, none⟩ (.int .i64 z3) = s4 at *
  refine (Pw.fI64_any qr _ b y3 b3 _ HS4.out.rf).mono ?_
  rintro e r4 ⟨rfl, hr, hg⟩
  rw [← HE4.out.1]
  rw [← HE4.out.2.1, ← HE4.out.2.2] at hr
  have HR4 : Hid (GetS10 w r4 qz qn qr v b y4 b4 (⟨z0, z1, z2, z3, 0, 0, 0, ⟨#[]⟩, 0, []⟩ : Kq.Kn) (.slice none 0 0)) := HS4.out.read hr hg
  clear hr hg
  have cj : r4.cell? ⟨qn, 4, none⟩ = some (.int .i64 0) := HR4.out.node.cell 4
  have fj := HR4.out.node.free 4
  go_wp2_with fail
  have HS5 : Hid (GetS10 w (r4.setCell ⟨qn, 4, none⟩ (.int .i64 z4)) qz qn qr v b y4 b4 (⟨z0, z1, z2, z3, z4, 0, 0, ⟨#[]⟩, 0, []⟩ : Kq.Kn) (.slice none 0 0)) := HR4.out.set 4 _ rfl rfl
  clear cj fj
  generalize r4.setCell ⟨qn, 4, none⟩ (.int .i64 z4) = s5 at *
  refine (Pw.fCount_any qr 2147483647 _ b y4 b4 _ HS5.out.rf).mono ?_
  rintro e r5 ⟨rfl, hr, hg⟩
  rw [← HE5.out.1]
  rw [← HE5.out.2.1, ← HE5.out.2.2] at hr
  have HR5 : Hid (GetS10 w r5 qz qn qr v b y5 b5 (⟨z0, z1, z2, z3, z4, 0, 0, ⟨#[]⟩, 0, []⟩ : Kq.Kn) (.slice none 0 0)) := HS5.out.read hr hg
  clear hr hg
  have cj : r5.cell? ⟨qn, 8, none⟩ = some (.int .i64 0) := HR5.out.node.cell 8
  have fj := HR5.out.node.free 8
  go_wp2_with fail
  have HS6 : Hid (GetS10 w (r5.setCell ⟨qn, 8, none⟩ (.int .i64 z5)) qz qn qr v b y5 b5 (⟨z0, z1, z2, z3, z4, 0, 0, ⟨#[]⟩, z5, []⟩ : Kq.Kn) (.slice none 0 0)) := HR5.out.set 8 _ rfl rfl
  clear cj fj
  generalize r5.setCell ⟨qn, 8, none⟩ (.int .i64 z5) = s6 at *
  refine (Pw.fText_any qr 1000 _ b y5 b5 _ HS6.out.rf).mono ?_
  rintro e r6 ⟨rfl, hr, hg⟩
  rw [← HE6.out.1.1]
  rw [← HE6.out.2.1, ← HE6.out.2.2] at hr
  have HR6 : Hid (GetS10 w r6 qz qn qr v b y6 b6 (⟨z0, z1, z2, z3, z4, 0, 0, ⟨#[]⟩, z5, []⟩ : Kq.Kn) (.slice none 0 0)) := HS6.out.read hr hg
  clear hr hg
  have cj : r6.cell? ⟨qn, 7, none⟩ = some (.string ⟨#[]⟩) := HR6.out.node.cell 7
  have fj := HR6.out.node.free 7
  go_wp2_with fail
  have HS7 : Hid (GetS10 w (r6.setCell ⟨qn, 7, none⟩ (.string z6)) qz qn qr v b y6 b6 (⟨z0, z1, z2, z3, z4, 0, 0, z6, z5, []⟩ : Kq.Kn) (.slice none 0 0)) := HR6.out.set 7 _ rfl rfl
  clear cj fj
  generalize r6.setCell ⟨qn, 7, none⟩ (.string z6) = s7 at *
  refine (Pw.fCount_any qr 500 _ b y6 b6 _ HS7.out.rf).mono ?_
  rintro e r7 ⟨rfl, hr, hg⟩
  rw [← HE7.out.1]
  rw [← HE7.out.2.1, ← HE7.out.2.2] at hr
  have HR7 : Hid (GetS10 w r7 qz qn qr v b y7 b7 (⟨z0, z1, z2, z3, z4, 0, 0, z6, z5, []⟩ : Kq.Kn) (.slice none 0 0)) := HS7.out.read hr hg
  clear hr hg
  go_wp2
  go_loopw [6] (fun i wr => ∃ (k : Nat) (ys' : List UInt8) (bad' : Bool) (u : Value) (l : List ByteArray), k ≤ K ∧ i = .int .i64 (k : Int) ∧ l.length = k ∧ GetS10 w wr qz qn qr v b ys' bad' (⟨z0, z1, z2, z3, z4, 0, 0, z6, z5, l⟩ : Kq.Kn) u ∧ Kq.rdNs K y7 b7 = (l ++ (Kq.rdNs (K - k) ys' bad').1, (Kq.rdNs (K - k) ys' bad').2)) (fun i _ => K + 1 - (intOf i).toNat)
  case atStart => exact ⟨0, y7, b7, .slice none 0 0, [], Nat.zero_le _, rfl, rfl, HR7.out, rfl⟩
  case round =>
    obtain ⟨k, ys', bad', u, l, hk, rfl, hlk, hgs, hrd⟩ := hrel
    have HG : Hid (GetS10 w wr qz qn qr v b ys' bad' (⟨z0, z1, z2, z3, z4, 0, 0, z6, z5, l⟩ : Kq.Kn) u) := hgs
    have HRD : Hid (l.length = k ∧ Kq.rdNs K y7 b7 = (l ++ (Kq.rdNs (K - k) ys' bad').1, (Kq.rdNs (K - k) ys' bad').2)) := ⟨hlk, hrd⟩
    obtain ⟨au, cu, hu, hrest⟩ := row_form hgs.own
    simp only [] at hu
    rw [hlk] at hu
    subst hu
    clear hgs hlk hrd hrest HR0 HR1 HR2 HR3 HR4 HR5 HR6 HR7 HS0 HS1 HS2 HS3 HS4 HS5 HS6 HS7
    have hc2 := HG.out.rf.c2
    by_cases hgo : k < K ∧ bad' = false
    · obtain ⟨hlt, hbad⟩ := hgo
      subst hbad
      have hlt' : (k : Int) < (K : Int) := by omega
      have hwk : IntKind.wrap .i64 ((k : Int) + 1) = (k : Int) + 1 := by rw [IntKind.wrap_i64]; omega
      go_wp2_with fail
      clear hc2
      refine wp_region_U (fun w' => w'.cell? ⟨qn, 9, none⟩ = some (.slice au k cu)) [7] (by kernel_rfl) ?_
      have HX : Hid (GetS10 w wr.drew qz qn qr v b ys' false (⟨z0, z1, z2, z3, z4, 0, 0, z6, z5, l⟩ : Kq.Kn) (.slice au k cu)) := HG.out.same (fun r => ⟨rfl, rfl, rfl, Nat.le_refl _, fun _ _ _ => rfl⟩)
      clear HG
      generalize wr.drew = wX at *
      have HC0 : Hid (wX.cell? ⟨qn, 9, none⟩ = some (.slice au k cu)) := HX.out.node.cell 9
      refine' take_U (i := 0) (d := 48) (v := _) rfl rfl (by kernel_rfl) (by kernel_rfl) (by kernel_rfl) (by kernel_rfl) (by kernel_rfl) (by kernel_rfl) (fun _ _ _ h => h) (Or.inl ⟨by rfl, ?h0⟩) (HC0.out) ?_
      case h0 => intro w hSw; go_simp; with_reducible rfl
      simp only [List.setIfInBounds_toArray, List.set_cons_zero, List.set_cons_succ]
      refine' take_U (i := 1) (d := 49) (v := _) rfl rfl (by kernel_rfl) (by kernel_rfl) (by kernel_rfl) (by kernel_rfl) (by kernel_rfl) (by kernel_rfl) (fun _ _ _ h => h) (Or.inl ⟨by rfl, ?h1⟩) (HC0.out) ?_
      case h1 => intro w hSw; go_simp; with_reducible rfl
      simp only [List.setIfInBounds_toArray, List.set_cons_zero, List.set_cons_succ]
      refine' take_U (i := 2) (d := 50) (v := _) rfl rfl (by kernel_rfl) (by kernel_rfl) (by kernel_rfl) (by kernel_rfl) (by kernel_rfl) (by kernel_rfl) (fun _ _ _ h => h) (Or.inl ⟨by rfl, ?h2⟩) (HC0.out) ?_
      case h2 => intro w hSw; go_simp; with_reducible rfl
      simp only [List.setIfInBounds_toArray, List.set_cons_zero, List.set_cons_succ]
      refine wpAnyU_ready (rs := [3]) (by kernel_rfl) (by simp) ?_
      refine AllReadyU.cons (o := _) rfl (fun KQ hK => ?_) AllReadyU.nil
      go_simp
      refine (Pw.fText_any qr 40 _ b ys' false _ HX.out.rf).mono ?_
      rintro e wA ⟨rfl, hr, hg⟩
      obtain ⟨x, hx⟩ : ∃ x : ByteArray, x = ⟨(Pk.rT 40 ys' false).1.toArray⟩ := ⟨_, rfl⟩
      obtain ⟨yA, hyA⟩ : ∃ y, y = (Pk.rT 40 ys' false).2.1 := ⟨_, rfl⟩
      obtain ⟨bA, hbA⟩ : ∃ y, y = (Pk.rT 40 ys' false).2.2 := ⟨_, rfl⟩
      have HT : Hid (x = ⟨(Pk.rT 40 ys' false).1.toArray⟩ ∧ yA = (Pk.rT 40 ys' false).2.1 ∧ bA = (Pk.rT 40 ys' false).2.2) := ⟨hx, hyA, hbA⟩
      rw [← hyA, ← hbA] at hr
      rw [← hx]
      clear hx hyA hbA
      have HA : Hid (GetS10 w wA qz qn qr v b yA bA (⟨z0, z1, z2, z3, z4, 0, 0, z6, z5, l⟩ : Kq.Kn) (.slice au k cu)) := HX.out.read hr hg
      clear hr hg
      simp only []
      refine hK.out _ _ (fun _ _ => HA.out.node.cell 9) ?_
      clear hK
      refine wpAnyU_ready (rs := [4]) (by kernel_rfl) (by simp) ?_
      refine AllReadyU.cons (o := _) rfl (fun KQ hK => ?_) AllReadyU.nil
      go_simp
      obtain ⟨qx, hqx⟩ : ∃ z, z = wA.heap.size := ⟨_, rfl⟩
      rw [← hqx]
      have HSx : Hid (Src (wA.alloc (.cells #[.string x] 9)) (.slice (some ⟨qx, 0, none⟩) 1 1) [x]) := by rw [hqx]; exact Src.one wA x _
      have HB : Hid (GetS10 w (wA.alloc (.cells #[.string x] 9)) qz qn qr v b yA bA (⟨z0, z1, z2, z3, z4, 0, 0, z6, z5, l⟩ : Kq.Kn) (.slice au k cu)) := HA.out.same (fun r => World.grownBy_alloc _ _ _)
      clear hqx
      generalize wA.alloc (.cells #[.string x] 9) = wB at *
      refine hK.out _ _ (fun _ _ => HB.out.node.cell 9) ?_
      clear hK
      refine wpAnyU_ready (rs := [5]) (by kernel_rfl) (by simp) ?_
      refine AllReadyU.cons (o := _) rfl (fun KQ hK => ?_) AllReadyU.nil
      refine wp_strs _ _ rfl w.heap.size (.slice au k cu) (.slice (some ⟨qx, 0, none⟩) 1 1) l [x] wB rfl rfl HB.out.own HB.out.gr.size HSx.out (by have h1 := HRD.out.1; simp only [List.length_singleton]; omega) ?_
      intro v42 wC ho hb hg
      have HQ4 : Hid (wC.cell? ⟨qn, 9, none⟩ = some (.slice au k cu) ∧ wC.frozen? ⟨qn, 9, none⟩ = false) := by
        have e : Cb wC qn (k10 (⟨z0, z1, z2, z3, z4, 0, 0, z6, z5, l⟩ : Kq.Kn) (.slice au k cu)) 50 := HB.out.node.keep (hg.block _ HB.out.node.lt (fun e => HB.out.node.apart HB.out.own (by decide) e.symm))
        exact ⟨e.cell 9, e.free 9⟩
      obtain ⟨a42, c42, hv42, hrest⟩ := row_form ho
      obtain ⟨n42, hn42⟩ : ∃ z, z = (l ++ [x]).length := ⟨_, rfl⟩
      rw [← hn42] at hv42
      subst hv42
      have HM : Hid (GetS10 w (wC.setCell ⟨qn, 9, none⟩ (.slice a42 n42 c42)) qz qn qr v b yA bA (⟨z0, z1, z2, z3, z4, 0, 0, z6, z5, l ++ [x]⟩ : Kq.Kn) (.slice a42 n42 c42)) := HB.out.more hg ho
      clear ho hb hg hn42 hrest
      go_simp
      refine hK.out _ _ (fun _ _ => HQ4.out.1) ?_
      clear hK
      refine' take_U (i := 6) (d := 54) (v := _) rfl rfl (by kernel_rfl) (by kernel_rfl) (by kernel_rfl) (by kernel_rfl) (by kernel_rfl) (by kernel_rfl) (fun _ _ _ h => h) (Or.inl ⟨by rfl, ?h6⟩) (HQ4.out.1) ?_
      case h6 => intro w hSw; go_simp; with_reducible rfl
      simp only [List.setIfInBounds_toArray, List.set_cons_zero, List.set_cons_succ]
      refine wpAnyU_ready (rs := [7]) (by kernel_rfl) (by simp) ?_
      refine AllReadyU.cons (o := _) rfl (fun KQ hK => ?_) AllReadyU.nil
      have hc := HQ4.out.1
      have hz := HQ4.out.2
      go_simp
      clear hc hz
      refine hK.out _ _ (fun h => absurd (by decide) h) ?_
      clear hK
      refine wpAnyU_done (by kernel_rfl) ?_ _
      generalize wC.setCell ⟨qn, 9, none⟩ (.slice a42 n42 c42) = wz at *
      have HRN : Hid ((l ++ [x]).length = k + 1 ∧ Kq.rdNs K y7 b7 = ((l ++ [x]) ++ (Kq.rdNs (K - (k + 1)) yA bA).1, (Kq.rdNs (K - (k + 1)) yA bA).2)) := by
        refine ⟨by rw [List.length_append, HRD.out.1]; rfl, ?_⟩
        have e : K - k = (K - (k + 1)) + 1 := by omega
        have h2 := HRD.out.2
        rw [e, Kq.rdNs, if_neg (by simp), ← HT.out.1, ← HT.out.2.1, ← HT.out.2.2] at h2
        rw [h2]
        simp
      clear HC0 HX HA HB HQ4 HSx
      go_wp2
      go_roundw
      case rel => exact ⟨k + 1, yA, bA, _, l ++ [x], by omega, by go_num, HRN.out.1, HM.out, HRN.out.2⟩
      case measure => simp [intOf]; omega
    · have HRAW : Hid (Kq.raw ys bad = (⟨z0, z1, z2, z3, z4, (z6.size : Int), (l.length : Int), z6, z5, l⟩, ys', bad')) := by
        have hfin : Kq.rdNs K y7 b7 = (l, ys', bad') := by
          rw [HRD.out.2]
          by_cases hb : bad' = true
          · rw [hb, rdNs_bad]
            simp
          · have e : K - k = 0 := by
              have : ¬ k < K := fun h => hgo ⟨h, by simpa using hb⟩
              omega
            rw [e, Kq.rdNs]
            simp
        have e : Kq.raw ys bad = (⟨z0, z1, z2, z3, z4, (z6.size : Int), (l.length : Int), z6, z5, l⟩, ys', bad') := by
          unfold Kq.raw
          simp only []
          rw [← HE0.out.1, ← HE0.out.2.1, ← HE0.out.2.2, ← HE1.out.1, ← HE1.out.2.1, ← HE1.out.2.2, ← HE2.out.1, ← HE2.out.2.1, ← HE2.out.2.2, ← HE3.out.1, ← HE3.out.2.1, ← HE3.out.2.2, ← HE4.out.1, ← HE4.out.2.1, ← HE4.out.2.2, ← HE5.out.1, ← HE5.out.2.1, ← HE5.out.2.2, ← HE6.out.1.1, ← HE6.out.1.2, ← HE6.out.2.1, ← HE6.out.2.2, ← HE7.out.1, ← HE7.out.2.1, ← HE7.out.2.2, Int.toNat_natCast, hfin]
        exact e
      cases bad' with
      | true =>
        clear hgo
        by_cases hlt : k < K
        · have hlt' : (k : Int) < (K : Int) := by omega
          have HNG : Hid (¬ Kq.Good ys bad) := fun hg => by
            have e := hg.1
            rw [HRAW.out] at e
            cases e
          obtain ⟨z0a, z1a, z2a, z3a, z4a, z5a, z6a, z7a, z8a, z9a⟩ := ten_cells HG.out.ans
          have f0 := HG.out.ans.free 0
          have f1 := HG.out.ans.free 1
          have f2 := HG.out.ans.free 2
          have f3 := HG.out.ans.free 3
          have f4 := HG.out.ans.free 4
          have f5 := HG.out.ans.free 5
          have f6 := HG.out.ans.free 6
          have f7 := HG.out.ans.free 7
          have f8 := HG.out.ans.free 8
          have f9 := HG.out.ans.free 9
          go_wp2_with fail
          have HX : Hid (Cb (put10 wr qz Kq.zero (.slice none 0 0)) qz (k10 Kq.zero (.slice none 0 0)) 50) := put10_cb HG.out.ans
          have HGR : Hid (w.grownBy (put10 wr qz Kq.zero (.slice none 0 0)) (some qr)) := grown_on HG.out.gr (put10_grown _ _ _ _) (Or.inr HG.out.hz)
          unfold put10 Kq.zero at HX HGR
          simp only [] at HX HGR
          generalize ((((((((((wr.setCell ⟨qz, 0, none⟩ (.int .i64 0)).setCell ⟨qz, 1, none⟩ (.int .i64 0)).setCell ⟨qz, 2, none⟩ (.int .i64 0)).setCell ⟨qz, 3, none⟩ (.int .i64 0)).setCell ⟨qz, 4, none⟩ (.int .i64 0)).setCell ⟨qz, 5, none⟩ (.int .i64 0)).setCell ⟨qz, 6, none⟩ (.int .i64 0)).setCell ⟨qz, 7, none⟩ (.string ⟨#[]⟩)).setCell ⟨qz, 8, none⟩ (.int .i64 0)).setCell ⟨qz, 9, none⟩ (.slice none 0 0)) = wy at *
          clear z0a z1a z2a z3a z4a z5a z6a z7a z8a z9a f0 f1 f2 f3 f4 f5 f6 f7 f8 f9
          refine bodyPost_ret (v := .tuple #[.agg #[.int .i64 0, .int .i64 0, .int .i64 0, .int .i64 0, .int .i64 0, .int .i64 0, .int .i64 0, .string ⟨#[]⟩, .int .i64 0, .slice none 0 0], .bool false]) ?_ rfl ⟨fun hg => absurd hg HNG.out, fun _ => rfl, HGR.out⟩
          obtain ⟨c0, c1, c2, c3, c4, c5, c6, c7, c8, c9⟩ := ten_cells HX.out
          simp only [] at c0 c1 c2 c3 c4 c5 c6 c7 c8 c9
          rw [results_cell_tmp rfl]
          go_simp
        · have hlt' : ¬ (k : Int) < (K : Int) := by omega
          have HNG : Hid (¬ Kq.Good ys bad) := fun hg => by
            have e := hg.1
            rw [HRAW.out] at e
            cases e
          obtain ⟨z0a, z1a, z2a, z3a, z4a, z5a, z6a, z7a, z8a, z9a⟩ := ten_cells HG.out.ans
          have f0 := HG.out.ans.free 0
          have f1 := HG.out.ans.free 1
          have f2 := HG.out.ans.free 2
          have f3 := HG.out.ans.free 3
          have f4 := HG.out.ans.free 4
          have f5 := HG.out.ans.free 5
          have f6 := HG.out.ans.free 6
          have f7 := HG.out.ans.free 7
          have f8 := HG.out.ans.free 8
          have f9 := HG.out.ans.free 9
          go_wp2_with fail
          have HX : Hid (Cb (put10 wr qz Kq.zero (.slice none 0 0)) qz (k10 Kq.zero (.slice none 0 0)) 50) := put10_cb HG.out.ans
          have HGR : Hid (w.grownBy (put10 wr qz Kq.zero (.slice none 0 0)) (some qr)) := grown_on HG.out.gr (put10_grown _ _ _ _) (Or.inr HG.out.hz)
          unfold put10 Kq.zero at HX HGR
          simp only [] at HX HGR
          generalize ((((((((((wr.setCell ⟨qz, 0, none⟩ (.int .i64 0)).setCell ⟨qz, 1, none⟩ (.int .i64 0)).setCell ⟨qz, 2, none⟩ (.int .i64 0)).setCell ⟨qz, 3, none⟩ (.int .i64 0)).setCell ⟨qz, 4, none⟩ (.int .i64 0)).setCell ⟨qz, 5, none⟩ (.int .i64 0)).setCell ⟨qz, 6, none⟩ (.int .i64 0)).setCell ⟨qz, 7, none⟩ (.string ⟨#[]⟩)).setCell ⟨qz, 8, none⟩ (.int .i64 0)).setCell ⟨qz, 9, none⟩ (.slice none 0 0)) = wy at *
          clear z0a z1a z2a z3a z4a z5a z6a z7a z8a z9a f0 f1 f2 f3 f4 f5 f6 f7 f8 f9
          refine bodyPost_ret (v := .tuple #[.agg #[.int .i64 0, .int .i64 0, .int .i64 0, .int .i64 0, .int .i64 0, .int .i64 0, .int .i64 0, .string ⟨#[]⟩, .int .i64 0, .slice none 0 0], .bool false]) ?_ rfl ⟨fun hg => absurd hg HNG.out, fun _ => rfl, HGR.out⟩
          obtain ⟨c0, c1, c2, c3, c4, c5, c6, c7, c8, c9⟩ := ten_cells HX.out
          simp only [] at c0 c1 c2 c3 c4 c5 c6 c7 c8 c9
          rw [results_cell_tmp rfl]
          go_simp
      | false =>
        have hlt : ¬ k < K := fun h => hgo ⟨h, rfl⟩
        clear hgo
        have hlt' : ¬ (k : Int) < (K : Int) := by omega
        have c9 : wr.cell? ⟨qn, 9, none⟩ = some (.slice au k cu) := HG.out.node.cell 9
        go_wp2_with fail
        refine (rising_any (.slice au k cu) l _ HG.out.names.ss (by have := HRD.out.1; omega)).mono ?_
        rintro e wR ⟨r, rfl, hr, hb⟩
        have HH : Hid (GetS10 w wR qz qn qr v b ys' false (⟨z0, z1, z2, z3, z4, 0, 0, z6, z5, l⟩ : Kq.Kn) (.slice au k cu)) := HG.out.same (fun r => ⟨hb.os, hb.tape, hb.output, hb.size, fun k hk _ => hb.block k hk⟩)
        have HRI : Hid (r = true ↔ Kq.Rises l) := hr
        clear hr hb c9 hc2
        obtain ⟨z0a, z1a, z2a, z3a, z4a, z5a, z6a, z7a, z8a, z9a⟩ := ten_cells HH.out.ans
        have f0 := HH.out.ans.free 0
        have f1 := HH.out.ans.free 1
        have f2 := HH.out.ans.free 2
        have f3 := HH.out.ans.free 3
        have f4 := HH.out.ans.free 4
        have f5 := HH.out.ans.free 5
        have f6 := HH.out.ans.free 6
        have f7 := HH.out.ans.free 7
        have f8 := HH.out.ans.free 8
        have f9 := HH.out.ans.free 9
        cases r with
        | false =>
          have HNG : Hid (¬ Kq.Good ys bad) := fun hg => by
            have e := hg.2
            rw [HRAW.out] at e
            have := HRI.out.2 e
            cases this
          go_wp2_with fail
          have HX : Hid (Cb (put10 wR qz Kq.zero (.slice none 0 0)) qz (k10 Kq.zero (.slice none 0 0)) 50) := put10_cb HH.out.ans
          have HGR : Hid (w.grownBy (put10 wR qz Kq.zero (.slice none 0 0)) (some qr)) := grown_on HH.out.gr (put10_grown _ _ _ _) (Or.inr HH.out.hz)
          unfold put10 Kq.zero at HX HGR
          simp only [] at HX HGR
          generalize ((((((((((wR.setCell ⟨qz, 0, none⟩ (.int .i64 0)).setCell ⟨qz, 1, none⟩ (.int .i64 0)).setCell ⟨qz, 2, none⟩ (.int .i64 0)).setCell ⟨qz, 3, none⟩ (.int .i64 0)).setCell ⟨qz, 4, none⟩ (.int .i64 0)).setCell ⟨qz, 5, none⟩ (.int .i64 0)).setCell ⟨qz, 6, none⟩ (.int .i64 0)).setCell ⟨qz, 7, none⟩ (.string ⟨#[]⟩)).setCell ⟨qz, 8, none⟩ (.int .i64 0)).setCell ⟨qz, 9, none⟩ (.slice none 0 0)) = wy at *
          clear z0a z1a z2a z3a z4a z5a z6a z7a z8a z9a f0 f1 f2 f3 f4 f5 f6 f7 f8 f9
          refine bodyPost_ret (v := .tuple #[.agg #[.int .i64 0, .int .i64 0, .int .i64 0, .int .i64 0, .int .i64 0, .int .i64 0, .int .i64 0, .string ⟨#[]⟩, .int .i64 0, .slice none 0 0], .bool false]) ?_ rfl ⟨fun hg => absurd hg HNG.out, fun _ => rfl, HGR.out⟩
          obtain ⟨c0, c1, c2, c3, c4, c5, c6, c7, c8, c9⟩ := ten_cells HX.out
          simp only [] at c0 c1 c2 c3 c4 c5 c6 c7 c8 c9
          rw [results_cell_tmp rfl]
          go_simp
        | true =>
          obtain ⟨c0, c1, c2, c3, c4, c5, c6, c7, c8, c9⟩ := ten_cells HH.out.node
          simp only [] at c0 c1 c2 c3 c4 c5 c6 c7 c8 c9
          have e5 := HH.out.node.free 5
          have hne1 : ¬ qn = qz := HH.out.ne
          have hne2 : ¬ qz = qn := fun e => HH.out.ne e.symm
          have e6 := HH.out.node.free 6
          go_wp2_with fail
          clear c0 c1 c2 c3 c4 c5 c6 c7 c8 c9 e5 e6 hne1 hne2
          have HJ : Hid (GetS10 w ((wR.setCell ⟨qn, 5, none⟩ (.int .i64 (z6.size : Int))).setCell ⟨qn, 6, none⟩ (.int .i64 (k : Int))) qz qn qr v b ys' false (⟨z0, z1, z2, z3, z4, (z6.size : Int), (k : Int), z6, z5, l⟩ : Kq.Kn) (.slice au k cu)) := (HH.out.set (n' := (⟨z0, z1, z2, z3, z4, (z6.size : Int), 0, z6, z5, l⟩ : Kq.Kn)) 5 _ rfl rfl).set 6 _ rfl rfl
          have HX : Hid (Cb (put10 ((wR.setCell ⟨qn, 5, none⟩ (.int .i64 (z6.size : Int))).setCell ⟨qn, 6, none⟩ (.int .i64 (k : Int))) qz (⟨z0, z1, z2, z3, z4, (z6.size : Int), (k : Int), z6, z5, l⟩ : Kq.Kn) (.slice au k cu)) qz (k10 (⟨z0, z1, z2, z3, z4, (z6.size : Int), (k : Int), z6, z5, l⟩ : Kq.Kn) (.slice au k cu)) 50) := put10_cb HJ.out.ans
          have hpg := put10_grown ((wR.setCell ⟨qn, 5, none⟩ (.int .i64 (z6.size : Int))).setCell ⟨qn, 6, none⟩ (.int .i64 (k : Int))) qz (⟨z0, z1, z2, z3, z4, (z6.size : Int), (k : Int), z6, z5, l⟩ : Kq.Kn) (.slice au k cu)
          have HGR : Hid (w.grownBy (put10 ((wR.setCell ⟨qn, 5, none⟩ (.int .i64 (z6.size : Int))).setCell ⟨qn, 6, none⟩ (.int .i64 (k : Int))) qz (⟨z0, z1, z2, z3, z4, (z6.size : Int), (k : Int), z6, z5, l⟩ : Kq.Kn) (.slice au k cu)) (some qr) ∧ Nm (put10 ((wR.setCell ⟨qn, 5, none⟩ (.int .i64 (z6.size : Int))).setCell ⟨qn, 6, none⟩ (.int .i64 (k : Int))) qz (⟨z0, z1, z2, z3, z4, (z6.size : Int), (k : Int), z6, z5, l⟩ : Kq.Kn) (.slice au k cu)) (.slice au k cu) l ∧ Pw.Rf (put10 ((wR.setCell ⟨qn, 5, none⟩ (.int .i64 (z6.size : Int))).setCell ⟨qn, 6, none⟩ (.int .i64 (k : Int))) qz (⟨z0, z1, z2, z3, z4, (z6.size : Int), (k : Int), z6, z5, l⟩ : Kq.Kn) (.slice au k cu)) qr v b ys' false) := by
            refine ⟨grown_on HJ.out.gr hpg (Or.inr HJ.out.hz), Nm.of_row (row_stays HJ.out.own (fun x hx => hpg.block x (HJ.out.own.lt x hx).2 (fun e => HJ.out.ans.apart HJ.out.own (by decide) (by rw [hx]; exact e)))), HJ.out.rf.grown hpg (by have h1 := HJ.out.hr; have h2 := HJ.out.hz; omega) (fun hb e => by have h1 := HJ.out.vb hb _ e; have h2 := HJ.out.hz; omega)⟩
          clear hpg
          unfold put10 at HX HGR
          simp only [] at HX HGR
          generalize ((((((((((((wR.setCell ⟨qn, 5, none⟩ (.int .i64 (z6.size : Int))).setCell ⟨qn, 6, none⟩ (.int .i64 (k : Int))).setCell ⟨qz, 0, none⟩ (.int .i64 z0)).setCell ⟨qz, 1, none⟩ (.int .i64 z1)).setCell ⟨qz, 2, none⟩ (.int .i64 z2)).setCell ⟨qz, 3, none⟩ (.int .i64 z3)).setCell ⟨qz, 4, none⟩ (.int .i64 z4)).setCell ⟨qz, 5, none⟩ (.int .i64 (z6.size : Int))).setCell ⟨qz, 6, none⟩ (.int .i64 (k : Int))).setCell ⟨qz, 7, none⟩ (.string z6)).setCell ⟨qz, 8, none⟩ (.int .i64 z5)).setCell ⟨qz, 9, none⟩ (.slice au k cu)) = wy at *
          clear z0a z1a z2a z3a z4a z5a z6a z7a z8a z9a f0 f1 f2 f3 f4 f5 f6 f7 f8 f9
          refine bodyPost_ret (v := .tuple #[.agg #[.int .i64 z0, .int .i64 z1, .int .i64 z2, .int .i64 z3, .int .i64 z4, .int .i64 (z6.size : Int), .int .i64 (k : Int), .string z6, .int .i64 z5, .slice au k cu], .bool true]) ?_ rfl ⟨fun _ => ⟨au, k, cu, ?_, ?_, ?_⟩, fun hg => absurd ⟨by rw [HRAW.out], by rw [HRAW.out]; exact HRI.out.1 (by simp)⟩ hg, HGR.out.1⟩
          · obtain ⟨c0, c1, c2, c3, c4, c5, c6, c7, c8, c9⟩ := ten_cells HX.out
            simp only [] at c0 c1 c2 c3 c4 c5 c6 c7 c8 c9
            rw [results_cell_tmp rfl]
            go_simp
          · rw [HRAW.out, HRD.out.1]
            rfl
          · rw [HRAW.out]
            exact HGR.out.2.1
          · rw [HRAW.out]
            exact HGR.out.2.2
end Go.Proofs.YtpidafpaffpnaaaGreatDoor
