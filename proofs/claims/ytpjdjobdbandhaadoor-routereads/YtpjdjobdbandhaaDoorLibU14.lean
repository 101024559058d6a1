/- What the reference's I64 and Txt answer; 'append([]byte{}, b...)'. What the reference's Reader answers. What the reference's Reader answers: Text, End. What the reference's Same answers. -/
import Derived.Test.YtpjdjobdbandhaaDoorLibW
import Derived.Deep.QuietTactic
import Derived.BigQuiet
import Derived.BigRegion
namespace Go.Proofs.YtpjdjobdbandhaaDoor.Pw
open Go.RowKit

set_option maxRecDepth 20000 in
set_option maxHeartbeats 400000 in
theorem refI64_any (v : Value) (xs : List UInt8) (z : Int) (w : World) (hb : Bs w v xs) (hN : xs.length ≤ 200000) :
    Calls Tryd.prog 43 #[v, .int .i64 z] w fun e w' => ∃ v', e = .returned v' ∧ w'.ownsRow w.heap.size 5 1 v' (xs.length + 8) (bc (xs ++ Pk.be8 z)) ∧ Below w.heap.size w w' := by
  have HS : Hid (Bs w v xs) := hb
  have HN : Hid (xs.length ≤ 200000) := hN
  obtain ⟨n, hn⟩ : ∃ n, n = xs.length := ⟨_, rfl⟩
  have HL : Hid (n = xs.length) := hn
  have hN1 : n ≤ 200000 := by omega
  rw [← hn]
  clear hb hN hn
  go_enter Tryd.func43, Tryd.ntmps43
  go_wp2_with (at_builtin; refine append_copy rfl _ _ rfl v xs w rfl rfl HS.out HN.out ?_)
  intro v1 w1 hown hb
  rw [← HL.out] at hown
  have HO : Hid (w1.ownsRow w.heap.size 5 1 v1 n (bc xs)) := hown
  have HB : Hid (Below w.heap.size w w1) := hb
  clear hown hb
  go_wp2
  go_loopw [5, 6] (fun u i wr => ∃ k : Nat, k ≤ 8 ∧ i = .int .i64 (7 - (k : Int)) ∧ wr.ownsRow w.heap.size 5 1 u (n + k) (bc (xs ++ (Pk.be8 z).take k)) ∧ Below w.heap.size w wr) (fun _ i _ => (intOf i + 1).toNat)
  case atStart => exact ⟨0, by omega, rfl, by simpa using HO.out, HB.out⟩
  case round =>
    obtain ⟨k, hk, rfl, hown, hb⟩ := hrel
    have HO1 : Hid (wr.ownsRow w.heap.size 5 1 u5 (n + k) (bc (xs ++ (Pk.be8 z).take k))) := hown
    have HB1 : Hid (Below w.heap.size w wr) := hb
    clear hown hb
    by_cases h8 : k < 8
    · have h0 : (0 : Int) ≤ 7 - (k : Int) := by omega
      have hBw : w.heap.size ≤ wr.heap.size := HB1.out.size
      go_wp2_with (at_builtin; refine append_byte rfl _ _ rfl w.heap.size u5 _ _ rfl wr _ (Pk.byteAt z (56 - 8 * k)) HO1.out hBw rfl (by omega) ?c1 ?_)
      case c1 => rw [Pk.byteAt_nat, IntKind.wrap_u64, show 8 * (7 - k) = 56 - 8 * k by omega]
      intro v' w1 hown hb
      have HO2 : Hid (w1.ownsRow w.heap.size 5 1 v' (n + k + 1) (bc (xs ++ ((Pk.be8 z).take k ++ [Pk.byteAt z (56 - 8 * k)])))) := by first | exact hown | (rw [← List.append_assoc]; exact hown)
      have HB2 : Hid (Below w.heap.size w w1) := HB1.out.trans hb
      clear hown hb
      go_wp2
      go_roundw
      case rel => exact ⟨k + 1, by omega, by go_num, by rw [be8_take z k h8]; exact HO2.out, HB2.out⟩
      case measure => simp [intOf]; omega
    · have h0 : ¬ (0 : Int) ≤ 7 - (k : Int) := by omega
      obtain rfl : k = 8 := by omega
      go_wp2
      go_ret
      exact ⟨_, rfl, HO1.out, HB1.out⟩

set_option maxRecDepth 20000 in
set_option maxHeartbeats 400000 in
theorem refTxt_any (v : Value) (xs : List UInt8) (s : ByteArray) (w : World) (hb : Bs w v xs) (hN : xs.length ≤ 200000) (hs : s.size ≤ 10000) :
    Calls Tryd.prog 44 #[v, .string s] w fun e w' => ∃ v', e = .returned v' ∧ Bs w' v' (xs ++ Pk.txt s.data.toList) ∧ Below w.heap.size w w' := by
  have HS : Hid (Bs w v xs) := hb
  have HN : Hid (xs.length ≤ 200000) := hN
  clear hb hN
  go_enter Tryd.func44, Tryd.ntmps44
  go_wp2_with fail
  refine (refI64_any v xs _ _ HS.out HN.out).mono ?_
  rintro e w1 ⟨v1, rfl, hown, hb⟩
  have HO : Hid (w1.ownsRow w.heap.size 5 1 v1 (xs.length + 8) (bc (xs ++ Pk.be8 s.size))) := hown
  have HB : Hid (Below w.heap.size w w1) := hb
  clear hown hb
  go_wp2_with (at_builtin; refine append_text rfl _ _ rfl w.heap.size v1 _ _ rfl _ HO.out HB.out.size s rfl (by have := HN.out; omega) ?_)
  intro v2 w2 hown hb
  have HO2 : Hid (Bs w2 v2 (xs ++ Pk.txt s.data.toList)) := by
    have h := Bs.own hown
    first | exact h | (rw [List.append_assoc] at h; exact h)
  have HB2 : Hid (Below w.heap.size w w2) := HB.out.trans hb
  clear hown hb
  go_wp2
  go_ret
  exact ⟨_, rfl, HO2.out, HB2.out⟩

theorem refI64_bs (v : Value) (xs : List UInt8) (z : Int) (w : World) (hb : Bs w v xs) (hN : xs.length ≤ 200000) :
    Calls Tryd.prog 43 #[v, .int .i64 z] w fun e w' => ∃ v', e = .returned v' ∧ Bs w' v' (xs ++ Pk.be8 z) ∧ Below w.heap.size w w' := by
  refine (refI64_any v xs z w hb hN).mono ?_
  rintro e w' ⟨v', rfl, ho, hb⟩
  exact ⟨v', rfl, Bs.own ho, hb⟩

end Go.Proofs.YtpjdjobdbandhaaDoor.Pw
namespace Go.Proofs.YtpjdjobdbandhaaDoor.Pw
open Go.RowKit

/-- The reference's Reader at block q, over bytes xs that lie elsewhere; ys is what it has left, bs8 the document says it. -/
structure Rf (w : World) (q : Nat) (v : Value) (xs ys : List UInt8) (bad : Bool) : Prop where
  pos : ∃ t : Nat, w.cell? ⟨q, 1, none⟩ = some (.int .i64 t) ∧ t ≤ xs.length ∧ (bad = false → ys = xs.drop t)
  c0 : w.cell? ⟨q, 0, none⟩ = some v
  c2 : w.cell? ⟨q, 2, none⟩ = some (.bool bad)
  f1 : w.frozen? ⟨q, 1, none⟩ = false
  f2 : w.frozen? ⟨q, 2, none⟩ = false
  bs : Bs w v xs
  blk : 0 < xs.length → v.ownBlock ≠ some q
  sad : bad = true → ys = []
  few : xs.length ≤ 200000

/-- Another block's change leaves it as it is. -/
theorem Rf.grown {w w' : World} {q r : Nat} {v : Value} {xs ys : List UInt8} {bad : Bool} (h : Rf w q v xs ys bad) (hg : w.grownBy w' (some r)) (hr : q ≠ r) (hv : 0 < xs.length → v.ownBlock ≠ some r) : Rf w' q v xs ys bad := by
  obtain ⟨t, h1, h2, h3⟩ := h.pos
  have hlt : q < w.heap.size := World.block_lt_of_cell? w ⟨q, 1, none⟩ h1
  have hb := hg.block q hlt (by simpa using hr)
  exact ⟨⟨t, (World.cell?_of_block hb).trans h1, h2, h3⟩, (World.cell?_of_block hb).trans h.c0, (World.cell?_of_block hb).trans h.c2, (World.frozen?_of_block hb).trans h.f1, (World.frozen?_of_block hb).trans h.f2, h.bs.grown hg hv, h.blk, h.sad, h.few⟩

/-- It is made Bad. -/
theorem rf_sad {w : World} {q : Nat} {v : Value} {xs ys : List UInt8} {bad : Bool} (h : Rf w q v xs ys bad) (n : Nat) : Rf ((w.drewN n).setCell ⟨q, 2, none⟩ (.bool true)) q v xs [] true ∧ w.grownBy ((w.drewN n).setCell ⟨q, 2, none⟩ (.bool true)) (some q) := by
  have hg : w.grownBy ((w.drewN n).setCell ⟨q, 2, none⟩ (.bool true)) (some q) := grownBy_trans (grownBy_drewN w n _) (grownBy_setCell _ ⟨q, 2, none⟩ _)
  obtain ⟨t, h1, h2, _⟩ := h.pos
  refine ⟨⟨⟨t, ?_, h2, fun e => by cases e⟩, ?_, ?_, by simpa using h.f1, by simpa using h.f2, h.bs.grown hg h.blk, h.blk, fun _ => rfl, h.few⟩, hg⟩
  · rw [World.cell?_setCell_other _ _ _ _ (by simp)]; exact h1
  · rw [World.cell?_setCell_other _ _ _ _ (by simp)]; exact h.c0
  · exact World.cell?_setCell_same _ _ _ (u := .bool bad) h.c2

/-- It goes on. -/
theorem rf_on {w : World} {q k t : Nat} {v : Value} {xs ys : List UInt8} (h : Rf w q v xs ys false) (n : Nat) (z : Int) (hz : z = ((t + k : Nat) : Int)) (ht : w.cell? ⟨q, 1, none⟩ = some (.int .i64 t)) (hy : ys = xs.drop t) (hk : t + k ≤ xs.length) :
    Rf ((w.drewN n).setCell ⟨q, 1, none⟩ (.int .i64 z)) q v xs (ys.drop k) false ∧ w.grownBy ((w.drewN n).setCell ⟨q, 1, none⟩ (.int .i64 z)) (some q) := by
  have hg : w.grownBy ((w.drewN n).setCell ⟨q, 1, none⟩ (.int .i64 z)) (some q) := grownBy_trans (grownBy_drewN w n _) (grownBy_setCell _ ⟨q, 1, none⟩ _)
  refine ⟨⟨⟨t + k, ?_, hk, fun _ => by rw [hy, List.drop_drop]⟩, ?_, ?_, by simpa using h.f1, by simpa using h.f2, h.bs.grown hg h.blk, h.blk, fun e => (by cases e), h.few⟩, hg⟩
  · rw [← hz]; exact World.cell?_setCell_same _ _ _ (u := .int .i64 t) ht
  · rw [World.cell?_setCell_other _ _ _ _ (by simp)]; exact h.c0
  · rw [World.cell?_setCell_other _ _ _ _ (by simp)]; exact h.c2

set_option maxRecDepth 20000 in
set_option maxHeartbeats 1000000 in
theorem fI64_bad (q : Nat) (v : Value) (xs ys : List UInt8) (w : World) (hR : Rf w q v xs ys true) :
    Calls Tryd.prog 46 #[.pointer (some ⟨q, 0, none⟩)] w fun e w' => e = .returned (.int .i64 0) ∧ Rf w' q v xs [] true ∧ w.grownBy w' (some q) := by
  have HR : Hid (Rf w q v xs ys true) := hR
  have hc2 := hR.c2
  have hf2 := hR.f2
  clear hR
  go_enter Tryd.func46, Tryd.ntmps46
  go_wp2
  go_quiet (fail)
  go_wp2
  go_ret
  exact ⟨rfl, (rf_sad HR.out _).1, (rf_sad HR.out _).2⟩

set_option maxRecDepth 20000 in
set_option maxHeartbeats 1000000 in
theorem fI64_few (q t : Nat) (v : Value) (xs ys : List UInt8) (w : World) (hR : Rf w q v xs ys false) (hc1 : w.cell? ⟨q, 1, none⟩ = some (.int .i64 t)) (ht : t ≤ xs.length) (hn : xs.length < t + 8) :
    Calls Tryd.prog 46 #[.pointer (some ⟨q, 0, none⟩)] w fun e w' => e = .returned (.int .i64 0) ∧ Rf w' q v xs [] true ∧ w.grownBy w' (some q) := by
  have HR : Hid (Rf w q v xs ys false) := hR
  have hc2 := hR.c2
  have hc0 := hR.c0
  have hf2 := hR.f2
  have hfew := hR.few
  obtain ⟨ao, n, c, rfl, hnl, _⟩ := hR.bs
  rw [← hnl] at hn ht hfew
  clear hR hnl
  have hd : (n : Int) - t < 8 := by omega
  go_enter Tryd.func46, Tryd.ntmps46
  go_wp2
  go_quiet (fail)
  go_wp2
  go_ret
  exact ⟨rfl, (rf_sad HR.out _).1, (rf_sad HR.out _).2⟩

set_option maxRecDepth 20000 in
set_option maxHeartbeats 1000000 in
theorem fI64_some (q t : Nat) (v : Value) (xs ys : List UInt8) (w : World) (hR : Rf w q v xs ys false) (hc1 : w.cell? ⟨q, 1, none⟩ = some (.int .i64 t)) (hy : ys = xs.drop t) (hn : t + 8 ≤ xs.length) :
    Calls Tryd.prog 46 #[.pointer (some ⟨q, 0, none⟩)] w fun e w' => e = .returned (.int .i64 (Pk.sgn (Pk.val (ys.take 8)))) ∧ Rf w' q v xs (ys.drop 8) false ∧ w.grownBy w' (some q) := by
  have HR : Hid (Rf w q v xs ys false) := hR
  have hc2 := hR.c2
  have hc0 := hR.c0
  have hf1 := hR.f1
  have hfew := hR.few
  have HY : Hid (ys = xs.drop t) := hy
  obtain ⟨bs8, has⟩ : ∃ bs8, bs8 = ys.take 8 := ⟨_, rfl⟩
  rw [← has]
  have HAL : Hid (bs8.length = 8) := by
    have h : bs8.length = 8 := by rw [has, List.length_take, hy, List.length_drop]; omega
    exact h
  obtain ⟨g, o, n, c, rfl, hnl, hnc, hcells⟩ := hR.bs.plain (by omega)
  have HA : Hid (∀ (j : Nat) x, bs8[j]? = some x → w.cell? ⟨g, o + (t + j), none⟩ = some (.int .u8 (x.toNat : Int))) := by
    intro j x hx
    refine hcells (t + j) x ?_
    rw [has, hy, List.getElem?_take] at hx
    split at hx
    · rw [List.getElem?_drop] at hx; exact hx
    · cases hx
  have HN : Hid (t + 8 ≤ xs.length) := hn
  rw [← hnl] at hn hfew
  clear hR hnl hy has hcells
  have hd : decide ((n : Int) - t < 8) = false := by simp; omega
  have hd2 : ¬ (n : Int) - t < 8 := by omega
  go_enter Tryd.func46, Tryd.ntmps46
  go_wp2
  go_quiet (fail)
  go_wp2
  go_loopw [3, 4] (fun u i wr => ∃ j : Nat, j ≤ 8 ∧ i = .int .i64 j ∧ u = .int .u64 (Pk.val (bs8.take j)) ∧ ∃ m, wr = w.drewN m) (fun _ i _ => 8 - (intOf i).toNat)
  case atStart => exact ⟨0, by omega, rfl, rfl, nq, rfl⟩
  case round =>
    obtain ⟨j, hj, rfl, rfl, m, rfl⟩ := hrel
    obtain ⟨a, ha⟩ : ∃ a, a = Pk.val (bs8.take j) := ⟨_, rfl⟩
    rw [← ha]
    have HV : Hid (a = Pk.val (bs8.take j)) := ha
    clear ha
    by_cases hlt : j < 8
    · obtain ⟨x, hx⟩ : ∃ x, bs8[j]? = some x := ⟨bs8[j]'(by rw [HAL.out]; exact hlt), List.getElem?_eq_getElem _⟩
      have hcell := HA.out j x hx
      have HX : Hid (bs8[j]? = some x) := hx
      clear hx
      have hlt' : (j : Int) < 8 := by omega
      have hb0 : (0 : Int) ≤ (t : Int) + j := by omega
      have hb1 : (t : Int) + j < n := by omega
      go_wp2
      go_quiet (fail)
      go_wp2
      go_roundw
      case rel => exact ⟨j + 1, by omega, by go_num, by rw [val_step bs8 j x a HX.out HV.out hlt], _, rfl⟩
      case measure => simp [intOf]; omega
    · have hlt' : ¬ (j : Int) < 8 := by omega
      have h8 : a = Pk.val bs8 := by rw [HV.out, List.take_of_length_le (by rw [HAL.out]; omega)]
      have HW : Hid (wrap64 (a : Int) = Pk.sgn (Pk.val bs8)) := by rw [h8]; exact wrap_sgn _ (val8_lt bs8 HAL.out)
      clear h8
      go_wp2
      go_ret
      have hon := rf_on (k := 8) HR.out m _ (show (t : Int) + 8 = ((t + 8 : Nat) : Int) by omega) hc1 HY.out HN.out
      exact ⟨by rw [← HW.out]; rfl, hon.1, hon.2⟩

theorem fI64_any (q : Nat) (v : Value) (xs ys : List UInt8) (bad : Bool) (w : World) (hR : Rf w q v xs ys bad) :
    Calls Tryd.prog 46 #[.pointer (some ⟨q, 0, none⟩)] w fun e w' => e = .returned (.int .i64 (Pk.rI ys bad).1) ∧ Rf w' q v xs (Pk.rI ys bad).2.1 (Pk.rI ys bad).2.2 ∧ w.grownBy w' (some q) := by
  unfold Pk.rI
  cases bad with
  | true =>
    obtain rfl := hR.sad rfl
    exact fI64_bad q v xs _ w hR
  | false =>
    obtain ⟨t, hc1, ht, hy⟩ := hR.pos
    have hy := hy rfl
    have hl : ys.length = xs.length - t := by rw [hy, List.length_drop]
    by_cases h : 8 ≤ ys.length
    · rw [if_pos h]; exact fI64_some q t v xs ys w hR hc1 hy (by omega)
    · rw [if_neg h]; exact fI64_few q t v xs ys w hR hc1 ht (by omega)

theorem rI_sad {ys : List UInt8} {bad : Bool} (h0 : bad = true → ys = []) (h : (Pk.rI ys bad).2.2 = true) : Pk.rI ys bad = (0, [], true) := by
  unfold Pk.rI at h ⊢
  split
  · rename_i h8
    rw [if_pos h8] at h
    have := h0 h
    rw [this] at h8
    simp at h8
  · rfl

theorem rC_sad {m : Int} {ys : List UInt8} {bad : Bool} (h0 : bad = true → ys = []) (h : (Pk.rI ys bad).2.2 = true) : Pk.rC m ys bad = (0, [], true) := by
  unfold Pk.rC
  rw [rI_sad h0 h]
  split <;> rfl

set_option maxRecDepth 20000 in
set_option maxHeartbeats 1000000 in
theorem fCount_any (q : Nat) (m : Int) (v : Value) (xs ys : List UInt8) (bad : Bool) (w : World) (hR : Rf w q v xs ys bad) :
    Calls Tryd.prog 45 #[.pointer (some ⟨q, 0, none⟩), .int .i64 m] w fun e w' => e = .returned (.int .i64 (Pk.rC m ys bad).1) ∧ Rf w' q v xs (Pk.rC m ys bad).2.1 (Pk.rC m ys bad).2.2 ∧ w.grownBy w' (some q) := by
  have HR : Hid (Rf w q v xs ys bad) := hR
  have HSD : Hid (bad = true → ys = []) := hR.sad
  clear hR
  obtain ⟨z, hz⟩ : ∃ z, z = (Pk.rI ys bad).1 := ⟨_, rfl⟩
  have HZ : Hid (z = (Pk.rI ys bad).1) := hz
  obtain ⟨b, hb⟩ : ∃ b, b = (Pk.rI ys bad).2.2 := ⟨_, rfl⟩
  have HBB : Hid (b = (Pk.rI ys bad).2.2) := hb
  by_cases hbad : b = true
  · subst hbad
    rw [rC_sad HSD.out hb.symm]
    clear hz hb
    go_enter Tryd.func45, Tryd.ntmps45
    go_wp2_with fail
    refine (fI64_any q v xs ys bad _ HR.out).mono ?_
    rintro e w1 ⟨rfl, hr, hg⟩
    rw [← HBB.out] at hr
    have HR1 : Hid (Rf w1 q v xs (Pk.rI ys bad).2.1 true) := hr
    have HG1 : Hid (w.grownBy w1 (some q)) := hg
    have hc2 := hr.c2
    have hf2 := hr.f2
    clear hr hg
    go_wp2
    go_ret
    exact ⟨rfl, (rf_sad HR1.out 0).1, grownBy_trans HG1.out (rf_sad HR1.out 0).2⟩
  · have hbf : b = false := by simpa using hbad
    subst hbf
    unfold Pk.rC
    by_cases h1 : z < 0
    · rw [if_pos (by rw [← hz]; exact Or.inl h1)]
      clear hz hb
      go_enter Tryd.func45, Tryd.ntmps45
      go_wp2_with fail
      refine (fI64_any q v xs ys bad _ HR.out).mono ?_
      rintro e w1 ⟨rfl, hr, hg⟩
      rw [← HZ.out]
      rw [← HBB.out] at hr
      have HR1 : Hid (Rf w1 q v xs (Pk.rI ys bad).2.1 false) := hr
      have HG1 : Hid (w.grownBy w1 (some q)) := hg
      have hc2 := hr.c2
      have hf2 := hr.f2
      clear hr hg
      go_wp2
      go_ret
      exact ⟨rfl, (rf_sad HR1.out 0).1, grownBy_trans HG1.out (rf_sad HR1.out 0).2⟩
    by_cases h2 : m < z
    · rw [if_pos (by rw [← hz]; exact Or.inr h2)]
      clear hz hb
      go_enter Tryd.func45, Tryd.ntmps45
      go_wp2_with fail
      refine (fI64_any q v xs ys bad _ HR.out).mono ?_
      rintro e w1 ⟨rfl, hr, hg⟩
      rw [← HZ.out]
      rw [← HBB.out] at hr
      have HR1 : Hid (Rf w1 q v xs (Pk.rI ys bad).2.1 false) := hr
      have HG1 : Hid (w.grownBy w1 (some q)) := hg
      have hc2 := hr.c2
      have hf2 := hr.f2
      clear hr hg
      go_wp2
      go_ret
      exact ⟨rfl, (rf_sad HR1.out 0).1, grownBy_trans HG1.out (rf_sad HR1.out 0).2⟩
    · rw [if_neg (by rw [← hz]; exact fun h => h.elim h1 h2)]
      rw [← hz]
      clear hz hb
      go_enter Tryd.func45, Tryd.ntmps45
      go_wp2_with fail
      refine (fI64_any q v xs ys bad _ HR.out).mono ?_
      rintro e w1 ⟨rfl, hr, hg⟩
      rw [← HZ.out]
      rw [← HBB.out] at hr
      have HR1 : Hid (Rf w1 q v xs (Pk.rI ys bad).2.1 false) := hr
      have HG1 : Hid (w.grownBy w1 (some q)) := hg
      have hc2 := hr.c2
      clear hr hg
      go_wp2
      go_ret
      exact ⟨rfl, by rw [← HBB.out]; exact HR1.out, HG1.out⟩

theorem rT_sad {m : Int} {ys : List UInt8} {bad : Bool} (h : (Pk.rC m ys bad).2.2 = true) (h0 : bad = true → ys = []) : Pk.rT m ys bad = ([], [], true) := by
  have e : Pk.rC m ys bad = (0, [], true) := by
    unfold Pk.rC at h ⊢
    split
    · rfl
    · rename_i hc
      rw [if_neg hc] at h
      exact rI_sad h0 h
  unfold Pk.rT
  rw [e]; rfl

end Go.Proofs.YtpjdjobdbandhaaDoor.Pw
namespace Go.Proofs.YtpjdjobdbandhaaDoor.Pw
open Go.RowKit

set_option maxRecDepth 20000 in
set_option maxHeartbeats 1000000 in
theorem fText_sad (q : Nat) (m : Int) (v : Value) (xs ys : List UInt8) (bad : Bool) (w : World) (hR : Rf w q v xs ys bad) (hb : (Pk.rC m ys bad).2.2 = true) :
    Calls Tryd.prog 47 #[.pointer (some ⟨q, 0, none⟩), .int .i64 m] w fun e w' => e = .returned (.string ⟨#[]⟩) ∧ Rf w' q v xs [] true ∧ w.grownBy w' (some q) := by
  have HR : Hid (Rf w q v xs ys bad) := hR
  have HBB : Hid ((Pk.rC m ys bad).2.2 = true) := hb
  clear hR hb
  go_enter Tryd.func47, Tryd.ntmps47
  go_wp2_with fail
  refine (fCount_any q m v xs ys bad _ HR.out).mono ?_
  rintro e w1 ⟨rfl, hr, hg⟩
  rw [HBB.out] at hr
  have HR1 : Hid (Rf w1 q v xs (Pk.rC m ys bad).2.1 true) := hr
  have HG1 : Hid (w.grownBy w1 (some q)) := hg
  have hc2 := hr.c2
  have hf2 := hr.f2
  clear hr hg
  go_wp2
  go_quiet (fail)
  go_wp2
  go_ret
  exact ⟨rfl, (rf_sad HR1.out _).1, grownBy_trans HG1.out (rf_sad HR1.out _).2⟩

set_option maxRecDepth 20000 in
set_option maxHeartbeats 1000000 in
theorem fText_few (q k : Nat) (m : Int) (v : Value) (xs ys : List UInt8) (bad : Bool) (w : World) (hR : Rf w q v xs ys bad) (hb : (Pk.rC m ys bad).2.2 = false) (hk : (Pk.rC m ys bad).1 = (k : Int)) (hK : k ≤ 9223372036854775807) (hl : (Pk.rC m ys bad).2.1.length < k) :
    Calls Tryd.prog 47 #[.pointer (some ⟨q, 0, none⟩), .int .i64 m] w fun e w' => e = .returned (.string ⟨#[]⟩) ∧ Rf w' q v xs [] true ∧ w.grownBy w' (some q) := by
  have HR : Hid (Rf w q v xs ys bad) := hR
  have HBB : Hid ((Pk.rC m ys bad).2.2 = false) := hb
  have HK : Hid ((Pk.rC m ys bad).1 = (k : Int)) := hk
  have HL : Hid ((Pk.rC m ys bad).2.1.length < k) := hl
  clear hR hb hk hl
  go_enter Tryd.func47, Tryd.ntmps47
  go_wp2_with fail
  refine (fCount_any q m v xs ys bad _ HR.out).mono ?_
  rintro e w1 ⟨rfl, hr, hg⟩
  rw [HBB.out] at hr
  rw [HK.out]
  have HR1 : Hid (Rf w1 q v xs (Pk.rC m ys bad).2.1 false) := hr
  have HG1 : Hid (w.grownBy w1 (some q)) := hg
  have hc2 := hr.c2
  have hc0 := hr.c0
  have hf2 := hr.f2
  have hfew := hr.few
  obtain ⟨t, hc1, ht, hy0⟩ := hr.pos
  have hy := hy0 rfl
  clear hy0
  obtain ⟨ao, n, c, rfl, hnl, _⟩ := hr.bs
  have hd : (n : Int) - t < k := by
    have h1 := HL.out
    rw [hy, List.length_drop] at h1
    omega
  rw [← hnl] at ht hfew
  clear hr hg hy hnl
  go_wp2
  go_quiet (fail)
  go_wp2
  go_ret
  exact ⟨rfl, (rf_sad HR1.out _).1, grownBy_trans HG1.out (rf_sad HR1.out _).2⟩

set_option maxRecDepth 20000 in
set_option maxHeartbeats 1000000 in
theorem fText_some (q k : Nat) (m : Int) (v : Value) (xs ys : List UInt8) (bad : Bool) (w : World) (hR : Rf w q v xs ys bad) (hb : (Pk.rC m ys bad).2.2 = false) (hk : (Pk.rC m ys bad).1 = (k : Int)) (hl : k ≤ (Pk.rC m ys bad).2.1.length) :
    Calls Tryd.prog 47 #[.pointer (some ⟨q, 0, none⟩), .int .i64 m] w fun e w' => e = .returned (.string ⟨((Pk.rC m ys bad).2.1.take k).toArray⟩) ∧ Rf w' q v xs ((Pk.rC m ys bad).2.1.drop k) false ∧ w.grownBy w' (some q) := by
  have HR : Hid (Rf w q v xs ys bad) := hR
  have HBB : Hid ((Pk.rC m ys bad).2.2 = false) := hb
  have HK : Hid ((Pk.rC m ys bad).1 = (k : Int)) := hk
  obtain ⟨zs, hzs⟩ : ∃ zs, zs = (Pk.rC m ys bad).2.1 := ⟨_, rfl⟩
  rw [← hzs] at hl ⊢
  have HZS : Hid (zs = (Pk.rC m ys bad).2.1) := hzs
  have HL : Hid (k ≤ zs.length) := hl
  obtain ⟨S, hS⟩ : ∃ S : ByteArray, S = ⟨(zs.take k).toArray⟩ := ⟨_, rfl⟩
  rw [← hS]
  have HS : Hid (S = ⟨(zs.take k).toArray⟩) := hS
  clear hR hb hk hl hzs hS
  go_enter Tryd.func47, Tryd.ntmps47
  go_wp2_with fail
  refine (fCount_any q m v xs ys bad _ HR.out).mono ?_
  rintro e w1 ⟨rfl, hr, hg⟩
  rw [HBB.out, ← HZS.out] at hr
  rw [HK.out]
  have HR1 : Hid (Rf w1 q v xs zs false) := hr
  have HG1 : Hid (w.grownBy w1 (some q)) := hg
  have hc2 := hr.c2
  have hc0 := hr.c0
  have hf1 := hr.f1
  have hfew := hr.few
  obtain ⟨t, hc1, ht, hy0⟩ := hr.pos
  have hy := hy0 rfl
  clear hy0
  have HY : Hid (zs = xs.drop t) := hy
  have hzl : zs.length = xs.length - t := by rw [hy, List.length_drop]
  by_cases hk0 : k = 0
  · subst hk0
    obtain ⟨ao, n, c, rfl, hnl, hsl⟩ := hr.bs
    have hnc : n ≤ c := by rw [hnl]; exact hsl.cap
    obtain rfl : S = ⟨#[]⟩ := by rw [HS.out]; rfl
    have HT : Hid (t + 0 ≤ xs.length) := ht
    have hcv := conv_none
    rw [← hnl] at ht hfew
    clear hr hg hy hzl hnl hsl
    have hd : decide ((n : Int) - t < 0) = false := by simp; omega
    have hd2 : ¬ (n : Int) - t < 0 := by omega
    have HON : Hid (∀ n2, Rf ((w1.drewN n2).setCell ⟨q, 1, none⟩ (.int .i64 (t : Int))) q (.slice ao n c) xs (zs.drop 0) false ∧ w1.grownBy ((w1.drewN n2).setCell ⟨q, 1, none⟩ (.int .i64 (t : Int))) (some q)) := fun n2 => rf_on (k := 0) HR1.out n2 (t : Int) (by simp) hc1 HY.out HT.out
    by_cases hct : c = t
    · subst hct
      go_wp2
      go_quiet (fail)
      go_wp2
      go_quiet (fail)
      go_wp2
      go_ret
      exact ⟨rfl, (HON.out _).1, grownBy_trans HG1.out (HON.out _).2⟩
    · have hb1 : (t : Int) ≤ c := by omega
      go_wp2
      go_quiet (fail)
      go_wp2
      go_quiet (fail)
      go_wp2
      go_ret
      exact ⟨rfl, (HON.out _).1, grownBy_trans HG1.out (HON.out _).2⟩
  · obtain ⟨g, o, n, c, rfl, hnl, hnc, hcells⟩ := hr.bs.plain (by have := HL.out; omega)
    have HT : Hid (t + k ≤ xs.length) := by
      have h : t + k ≤ xs.length := by have := HL.out; omega
      exact h
    have hcv : ∀ q2, (convert 47 9 (.slice (some ⟨g, o + t, none⟩) k (c - t))).run Tryd.prog (w1.drewN q2) = .ok (.string S) (w1.drewN q2) := fun q2 => by
      rw [HS.out]
      refine (bs_of_plain (by rw [List.length_take]; have := HL.out; omega) (by have := HT.out; omega) (fun i x hx => ?_)).conv
      rw [List.getElem?_take] at hx
      split at hx
      · rw [HY.out, List.getElem?_drop] at hx
        rw [Nat.add_assoc]
        exact hcells (t + i) x hx
      · cases hx
    have htk : t + k ≤ n := by rw [hnl]; exact HT.out
    rw [← hnl] at ht hfew
    clear hr hg hy hzl hnl hcells
    have hd : decide ((n : Int) - t < k) = false := by simp; omega
    have hd2 : ¬ (n : Int) - t < k := by omega
    have hb1 : (t : Int) ≤ (t : Int) + k := by omega
    have hb2 : (t : Int) + k ≤ c := by omega
    have hb3 : ¬ c = t := by omega
    have hb4 : t + k - t = k := by omega
    go_wp2
    go_quiet (fail)
    go_wp2
    go_quiet (fail)
    have hon := fun n => rf_on (k := k) HR1.out n ((t : Int) + k) (by omega) hc1 HY.out HT.out
    go_wp2
    go_ret
    exact ⟨rfl, (hon _).1, grownBy_trans HG1.out (hon _).2⟩

theorem sgn_le (n : Nat) (h : n < 18446744073709551616) : Pk.sgn n ≤ 9223372036854775807 := by
  unfold Pk.sgn; split <;> omega

theorem rI_le (ys : List UInt8) (bad : Bool) : (Pk.rI ys bad).1 ≤ 9223372036854775807 := by
  unfold Pk.rI
  split
  · rename_i h
    exact sgn_le _ (val8_lt _ (by rw [List.length_take]; omega))
  · show (0 : Int) ≤ _; decide

theorem rC_le (m : Int) (ys : List UInt8) (bad : Bool) : (Pk.rC m ys bad).1 ≤ 9223372036854775807 := by
  unfold Pk.rC
  split
  · show (0 : Int) ≤ _; decide
  · exact rI_le ys bad

theorem fText_any (q : Nat) (m : Int) (v : Value) (xs ys : List UInt8) (bad : Bool) (w : World) (hR : Rf w q v xs ys bad) :
    Calls Tryd.prog 47 #[.pointer (some ⟨q, 0, none⟩), .int .i64 m] w fun e w' => e = .returned (.string ⟨(Pk.rT m ys bad).1.toArray⟩) ∧ Rf w' q v xs (Pk.rT m ys bad).2.1 (Pk.rT m ys bad).2.2 ∧ w.grownBy w' (some q) := by
  cases hb : (Pk.rC m ys bad).2.2 with
  | true =>
    rw [rT_sad hb hR.sad]
    exact fText_sad q m v xs ys bad w hR hb
  | false =>
    have h0 := Pk.rC_nonneg m ys bad
    have h1 := rC_le m ys bad
    obtain ⟨k, hk⟩ : ∃ k : Nat, (Pk.rC m ys bad).1 = (k : Int) := ⟨(Pk.rC m ys bad).1.toNat, by omega⟩
    have hkt : (Pk.rC m ys bad).1.toNat = k := by omega
    unfold Pk.rT
    rw [hkt, hb]
    by_cases h : k ≤ (Pk.rC m ys bad).2.1.length
    · rw [if_pos h]; exact fText_some q k m v xs ys bad w hR hb hk h
    · rw [if_neg h]; exact fText_few q k m v xs ys bad w hR hb hk (by omega) (by omega)

set_option maxRecDepth 20000 in
set_option maxHeartbeats 1000000 in
theorem fEnd_any (q : Nat) (v : Value) (xs ys : List UInt8) (bad : Bool) (w : World) (hR : Rf w q v xs ys bad) :
    Calls Tryd.prog 48 #[.pointer (some ⟨q, 0, none⟩)] w fun e w' => e = .returned (.bool (!bad && ys.isEmpty)) ∧ ∃ n, w' = w.drewN n := by
  have hc2 := hR.c2
  have hc0 := hR.c0
  have hfew := hR.few
  obtain ⟨t, hc1, ht, hy⟩ := hR.pos
  obtain ⟨ao, n, c, rfl, hnl, _⟩ := hR.bs
  cases bad with
  | true =>
    clear hR hy hnl ht hfew
    go_enter Tryd.func48, Tryd.ntmps48
    go_wp2
    go_quiet (fail)
    go_wp2
    go_ret
    exact ⟨rfl, _, rfl⟩
  | false =>
    have hy1 := hy rfl
    clear hy
    have hy := hy1
    clear hy1
    obtain ⟨r, hr⟩ : ∃ r, r = ys.isEmpty := ⟨_, rfl⟩
    rw [← hr]
    have hl : ys.length = n - t := by rw [hy, List.length_drop, ← hnl]
    rw [← hnl] at ht hfew
    cases h0 : ((t : Int) == (n : Int)) with
    | true =>
      have e : (t : Int) = n := by simpa using h0
      obtain rfl : r = true := by rw [hr, List.isEmpty_iff_length_eq_zero]; omega
      clear hR hy hnl hr hl e ht hfew
      go_enter Tryd.func48, Tryd.ntmps48
      go_wp2
      go_quiet (fail)
      go_wp2
      go_ret
      exact ⟨rfl, _, rfl⟩
    | false =>
      have e : (t : Int) ≠ n := by simpa using h0
      obtain rfl : r = false := by
        rw [hr]
        cases hq : ys.isEmpty with
        | false => rfl
        | true => rw [List.isEmpty_iff_length_eq_zero] at hq; omega
      clear hR hy hnl hr hl e ht hfew
      go_enter Tryd.func48, Tryd.ntmps48
      go_wp2
      go_quiet (fail)
      go_wp2
      go_ret
      exact ⟨rfl, _, rfl⟩

end Go.Proofs.YtpjdjobdbandhaaDoor.Pw
