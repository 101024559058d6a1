/- The reference's Take. -/
import Derived.Test.YtadgjinlblloiaaDoorRefF17
import Derived.BigRegion
namespace Go.Proofs.YtadgjinlblloiaaDoor
open Go.RowKit

theorem Lk.find_at {f : ByteArray → Bool} {ps : List ByteArray} {k : Nat} {p : ByteArray} (h : ∀ y ∈ ps.take k, f y = false) (hp : ps[k]? = some p) (e : f p = true) : ps.find? f = some p := by
  have h1 : ps = ps.take k ++ p :: ps.drop (k + 1) := by
    have hk := (List.getElem?_eq_some_iff.1 hp).1
    have h3 := List.drop_eq_getElem_cons hk
    have h4 : ps[k] = p := (List.getElem?_eq_some_iff.1 hp).2
    rw [h4] at h3
    rw [← h3, List.take_append_drop]
  rw [h1, List.find?_append]
  have h2 : (ps.take k).find? f = none := List.find?_eq_none.2 fun y hy => by rw [h y hy]; simp
  rw [h2]
  simp [e]
theorem Lk.take_snoc {α : Type} {P : α → Prop} {l : List α} {k : Nat} {x : α} (h : ∀ y ∈ l.take k, P y) (hx : l[k]? = some x) (e : P x) : ∀ y ∈ l.take (k + 1), P y := by
  intro y hy
  rw [List.take_add_one, hx] at hy
  rcases List.mem_append.1 hy with hy | hy
  · exact h y hy
  · simp at hy
    rw [hy]
    exact e
theorem Lk.adds_snoc (who : Int) (s : Lk.St) {ps : List ByteArray} {k : Nat} {p : ByteArray} (hp : ps[k]? = some p) : Lk.adds who s (ps.take (k + 1)) = Lk.add who (Lk.adds who s (ps.take k)) p := by
  rw [List.take_add_one, hp]
  unfold Lk.adds
  rw [List.foldl_append]
  rfl
/-- Where the texts lie nothing is changed. -/
theorem Ss.on17 {w : World} {a : Option Addr} {n c : Nat} {ps : List ByteArray} {F : Nat → Prop} (h : Ss w (.slice a n c) ps) (hoff : ∀ k, (Value.slice a n c).ownBlock = some k → ps ≠ [] → ¬ F k) {j : Nat} {x : ByteArray} (hx : ps[j]? = some x) : ∃ g o, a = some ⟨g, o, none⟩ ∧ ∀ w' F', Moved w w' F F' → w'.cell? ⟨g, o + j, none⟩ = some (.string x) := by
  obtain ⟨av, k, c', hv, hk, hc⟩ := h
  simp only [Value.slice.injEq] at hv
  obtain ⟨rfl, rfl, rfl⟩ := hv
  obtain ⟨g, o, ha, hcell⟩ := hc j x hx
  refine ⟨g, o, ha, fun w' F' hm => ?_⟩
  have hb := hm.block g (World.block_lt_of_cell? w _ hcell) (hoff g (by rw [ha]; rfl) (fun e => by rw [e] at hx; simp at hx))
  exact (World.cell?_of_block hb).trans hcell
def TakeP (w : World) (q : Nat) (s : Lk.St) (F : Nat → Prop) (who : Int) (ps : List ByteArray) (e : Ending) (w' : World) : Prop := ∃ F', e = .returned (.tuple #[.string (Lk.take s who ps).1, .bool (Lk.take s who ps).2.1]) ∧ LRl w' q (Lk.take s who ps).2.2 F' ∧ Moved w w' F F'
theorem TakeP.no {w w' : World} {q : Nat} {s : Lk.St} {F : Nat → Prop} {who : Int} {ps : List ByteArray} {p : ByteArray} (h : LRl w q s F) (hf : Lk.faulty s who ps = some p) (hb : Below w.heap.size w w') : TakeP w q s F who ps (.returned (.tuple #[.string p, .bool false])) w' := by
  unfold TakeP
  rw [Lk.take_no hf]
  exact ⟨F, rfl, LRl.keep h fun k hk => hb.block k (LRl.lt h hk), Moved.of_below _ hb⟩
theorem TakeP.yes {w w' : World} {q : Nat} {s : Lk.St} {F F' : Nat → Prop} {who : Int} {ps : List ByteArray} (h : LRl w' q (Lk.adds who s ps) F') (hf : Lk.faulty s who ps = none) (hm : Moved w w' F F') : TakeP w q s F who ps (.returned (.tuple #[.string ⟨#[]⟩, .bool true])) w' := by
  unfold TakeP
  rw [Lk.take_yes hf]
  exact ⟨F', rfl, h, hm⟩
theorem Moved.later {w w' w2 : World} {F F' : Nat → Prop} (h : Moved w w' F F') (hb : Below w'.heap.size w' w2) : Moved w w2 F F' := h.trans (Moved.of_below _ hb)
set_option maxRecDepth 20000 in
set_option maxHeartbeats 16000000 in
theorem refTake_any17 (q : Nat) (s : Lk.St) (F : Nat → Prop) (m : Nat) (who : Int) (v : Value) (ps : List ByteArray) (w : World) (hL : LRl w q s F) (hf : Lk.Fine m s) (hm : m ≤ 900) (hw : I64 who) (hv : Ss w v ps) (hl : ps.length ≤ 10) (hp : ∀ p ∈ ps, p.size ≤ maxLen) (hoff : ∀ k, v.ownBlock = some k → ps ≠ [] → ¬ F k) :
    Calls Tryd.prog 15 #[dptr q, .int .i64 who, v] w fun e w' => TakeP w q s F who ps e w' := by
  obtain ⟨av, M, cu, rfl, hM, hk⟩ := hv
  have HU : Hid (Ss w (.slice av M cu) ps ∧ M = ps.length ∧ (∀ p ∈ ps, p.size ≤ maxLen) ∧ (∀ k, (Value.slice av M cu).ownBlock = some k → ps ≠ [] → ¬ F k) ∧ I64 who) := ⟨⟨av, M, cu, rfl, hM, hk⟩, hM, hp, hoff, hw⟩
  have HL : Hid (LRl w q s F ∧ Lk.Fine m s ∧ m ≤ 900) := ⟨hL, hf, hm⟩
  have hM1 : M ≤ 10 := by omega
  clear hL hf hm hw hl hp hoff hM hk
  unfold dptr
  go_enter Tryd.func15, Tryd.ntmps15
  go_wp2
  go_loopw [8] (fun i wx => ∃ k : Nat, k ≤ M ∧ i = .int .i64 (k : Int) ∧ Below w.heap.size w wx ∧ ∀ p ∈ ps.take k, Lk.good p = true) (fun i _ => M - (intOf i).toNat)
  case atStart => exact ⟨0, Nat.zero_le _, rfl, Below.refl _ _, fun x hx => by simp at hx⟩
  case round =>
    obtain ⟨k, hk, rfl, hb, hgd⟩ := hrel
    have HW : Hid (Below w.heap.size w wr ∧ ∀ p ∈ ps.take k, Lk.good p = true) := ⟨hb, hgd⟩
    clear hb hgd
    by_cases hlt : k < M
    · have hlt' : (k : Int) < (M : Int) := by omega
      have hk0 : (0 : Int) ≤ (k : Int) := by omega
      have hwk : IntKind.wrap .i64 ((k : Int) + 1) = (k : Int) + 1 := by rw [IntKind.wrap_i64]; omega
      obtain ⟨p, hp⟩ : ∃ p, ps[k]? = some p := ⟨ps[k]'(by rw [← HU.out.2.1]; exact hlt), List.getElem?_eq_getElem _⟩
      obtain ⟨g, o, rfl, hcl⟩ := HU.out.1.on17 HU.out.2.2.2.1 hp
      have HP : Hid (ps[k]? = some p ∧ p.size ≤ maxLen ∧ ∀ w' F', Moved w w' F F' → w'.cell? ⟨g, o + k, none⟩ = some (.string p)) := ⟨hp, HU.out.2.2.1 p (List.mem_of_getElem? hp), hcl⟩
      have c0 := hcl wr F (Moved.of_below F HW.out.1)
      clear hp hcl
      obtain ⟨gd, hgd⟩ : ∃ z, z = Pl.goodB p.data.toList := ⟨_, rfl⟩
      have HGD : Hid (gd = Lk.good p) := hgd
      clear hgd
      go_wp2_with fail
      refine (Pa.refGood_any p wr HP.out.2.1).mono ?_
      rintro e w1 ⟨rfl, hb⟩
      have e5 : Pl.goodB p.data.toList = gd := HGD.out.symm
      rw [e5]
      have H1 : Hid (Below w.heap.size w w1) := HW.out.1.trans (hb.mono HW.out.1.size)
      clear hb c0 e5
      cases gd with
      | false =>
        have HF : Hid (Lk.faulty s who ps = some p) := (show Lk.faulty s who ps = some p by
          unfold Lk.faulty
          rw [Lk.find_at (f := fun p => !Lk.good p) (fun y hy => by rw [HW.out.2 y hy]; rfl) HP.out.1 (by rw [← HGD.out]; rfl)])
        have c0 := HP.out.2.2 w1 F (Moved.of_below F H1.out)
        go_wp2
        go_ret2
        exact TakeP.no HL.out.1 HF.out H1.out
      | true =>
        go_wp2
        go_roundw
        case rel => exact ⟨k + 1, by omega, by go_num, H1.out, Lk.take_snoc HW.out.2 HP.out.1 HGD.out.symm⟩
        case measure => simp [intOf]; omega
    · have hlt' : ¬ (k : Int) < (M : Int) := by omega
      have HGA : Hid (∀ p ∈ ps, Lk.good p = true) := (show ∀ p ∈ ps, Lk.good p = true by
        have h := HW.out.2
        rw [List.take_of_length_le (by rw [← HU.out.2.1]; omega)] at h
        exact h)
      have HFB : Hid (Lk.faulty s who ps = ps.find? (Lk.blocks s who)) := (show Lk.faulty s who ps = ps.find? (Lk.blocks s who) by
        unfold Lk.faulty
        have e : ps.find? (fun p => !Lk.good p) = none := List.find?_eq_none.2 fun p hp => by simp [HGA.out p hp]
        rw [e])
      have H2 : Hid (Below w.heap.size w wr) := HW.out.1
      go_wp2
      clear HW hlt hlt' hk
      go_loopw [9] (fun i wx => ∃ k : Nat, k ≤ M ∧ i = .int .i64 (k : Int) ∧ Below w.heap.size w wx ∧ ∀ p ∈ ps.take k, Lk.blocks s who p = false) (fun i _ => M - (intOf i).toNat)
      case atStart => exact ⟨0, Nat.zero_le _, rfl, H2.out, fun x hx => by simp at hx⟩
      case round =>
        obtain ⟨k, hk, rfl, hb, hbl⟩ := hrel
        have HW : Hid (Below w.heap.size w wr ∧ ∀ p ∈ ps.take k, Lk.blocks s who p = false) := ⟨hb, hbl⟩
        clear hb hbl H2
        by_cases hlt : k < M
        · have hlt' : (k : Int) < (M : Int) := by omega
          have hk0 : (0 : Int) ≤ (k : Int) := by omega
          have hwk : IntKind.wrap .i64 ((k : Int) + 1) = (k : Int) + 1 := by rw [IntKind.wrap_i64]; omega
          obtain ⟨p, hp⟩ : ∃ p, ps[k]? = some p := ⟨ps[k]'(by rw [← HU.out.2.1]; exact hlt), List.getElem?_eq_getElem _⟩
          obtain ⟨g, o, rfl, hcl⟩ := HU.out.1.on17 HU.out.2.2.2.1 hp
          have HP : Hid (ps[k]? = some p ∧ p.size ≤ maxLen ∧ ∀ w' F', Moved w w' F F' → w'.cell? ⟨g, o + k, none⟩ = some (.string p)) := ⟨hp, HU.out.2.2.1 p (List.mem_of_getElem? hp), hcl⟩
          have c0 := hcl wr F (Moved.of_below F HW.out.1)
          clear hp hcl
          obtain ⟨bl, hbl⟩ : ∃ z, z = Lk.blocks s who p := ⟨_, rfl⟩
          have HBL : Hid (bl = Lk.blocks s who p) := hbl
          clear hbl
          go_wp2_with fail
          refine (refBlocks_any17 q s F m who p wr (LRl.keep HL.out.1 fun k hk => HW.out.1.block k (LRl.lt HL.out.1 hk)) HL.out.2.1 (by have := HL.out.2.2; omega) HP.out.2.1).mono ?_
          rintro e w1 ⟨rfl, hb⟩
          rw [← HBL.out]
          have H1 : Hid (Below w.heap.size w w1) := HW.out.1.trans (hb.mono HW.out.1.size)
          clear hb c0
          cases bl with
          | true =>
            have HF : Hid (Lk.faulty s who ps = some p) := (show Lk.faulty s who ps = some p by
              rw [HFB.out]
              exact Lk.find_at HW.out.2 HP.out.1 HBL.out.symm)
            have c0 := HP.out.2.2 w1 F (Moved.of_below F H1.out)
            go_wp2
            go_ret2
            exact TakeP.no HL.out.1 HF.out H1.out
          | false =>
            go_wp2
            go_roundw
            case rel => exact ⟨k + 1, by omega, by go_num, H1.out, Lk.take_snoc HW.out.2 HP.out.1 HBL.out.symm⟩
            case measure => simp [intOf]; omega
        · have hlt' : ¬ (k : Int) < (M : Int) := by omega
          have HBA : Hid (∀ p ∈ ps, Lk.blocks s who p = false) := (show ∀ p ∈ ps, Lk.blocks s who p = false by
            have h := HW.out.2
            rw [List.take_of_length_le (by rw [← HU.out.2.1]; omega)] at h
            exact h)
          have HFN : Hid (Lk.faulty s who ps = none) := (show Lk.faulty s who ps = none by exact Lk.faulty_ok HGA.out HBA.out)
          have H2 : Hid (LRl wr q (Lk.adds who s (ps.take 0)) F ∧ Moved w wr F F) := ⟨LRl.keep HL.out.1 fun k hk => HW.out.1.block k (LRl.lt HL.out.1 hk), Moved.of_below F HW.out.1⟩
          go_wp2
          clear HW hlt hlt' hk HFB
          go_loopw [10] (fun i wx => ∃ (k : Nat) (F1 : Nat → Prop), k ≤ M ∧ i = .int .i64 (k : Int) ∧ LRl wx q (Lk.adds who s (ps.take k)) F1 ∧ Moved w wx F F1) (fun i _ => M - (intOf i).toNat)
          case atStart => exact ⟨0, F, Nat.zero_le _, rfl, H2.out.1, H2.out.2⟩
          case round =>
            obtain ⟨k, F1, hk, rfl, hL, hmv⟩ := hrel
            have HW : Hid (LRl wr q (Lk.adds who s (ps.take k)) F1 ∧ Moved w wr F F1) := ⟨hL, hmv⟩
            clear hL hmv H2
            by_cases hlt : k < M
            · have hlt' : (k : Int) < (M : Int) := by omega
              have hk0 : (0 : Int) ≤ (k : Int) := by omega
              have hwk : IntKind.wrap .i64 ((k : Int) + 1) = (k : Int) + 1 := by rw [IntKind.wrap_i64]; omega
              obtain ⟨p, hp⟩ : ∃ p, ps[k]? = some p := ⟨ps[k]'(by rw [← HU.out.2.1]; exact hlt), List.getElem?_eq_getElem _⟩
              obtain ⟨g, o, rfl, hcl⟩ := HU.out.1.on17 HU.out.2.2.2.1 hp
              have HP : Hid (ps[k]? = some p ∧ p.size ≤ maxLen ∧ ∀ w' F', Moved w w' F F' → w'.cell? ⟨g, o + k, none⟩ = some (.string p)) := ⟨hp, HU.out.2.2.1 p (List.mem_of_getElem? hp), hcl⟩
              have c0 := hcl wr F1 HW.out.2
              clear hp hcl
              obtain ⟨s1, hs1⟩ : ∃ s1, s1 = Lk.adds who s (ps.take k) := ⟨_, rfl⟩
              have HFI : Hid (s1 = Lk.adds who s (ps.take k) ∧ Lk.Fine (m + (ps.take k).length) s1 ∧ s1.length ≤ 1000 ∧ m + (ps.take k).length ≤ 1000) := by
                have h1 : Lk.Fine (m + (ps.take k).length) s1 := by
                  rw [hs1]
                  exact HL.out.2.1.adds HU.out.2.2.2.2 (fun y hy => HGA.out y (List.mem_of_mem_take hy)) (fun y hy => HBA.out y (List.mem_of_mem_take hy))
                have h2 := HL.out.2.2
                have h3 : (ps.take k).length ≤ 10 := by rw [List.length_take]; have := HU.out.2.1; omega
                exact ⟨hs1, h1, by have := h1.len; omega, by omega⟩
              have HL1 : Hid (LRl wr q s1 F1) := (show LRl wr q s1 F1 by rw [hs1]; exact HW.out.1)
              obtain ⟨hd, hhd⟩ : ∃ z, z = Lk.held s1 p := ⟨_, rfl⟩
              have HHD : Hid (hd = Lk.held s1 p) := hhd
              clear hs1 hhd
              go_wp2_with fail
              refine (refHeld_any17 q s1 F1 _ p wr HL1.out HFI.out.2.1 HFI.out.2.2.2).mono ?_
              rintro e w4 ⟨rfl, hb⟩
              rw [← HHD.out]
              have HB4 : Hid (Below wr.heap.size wr w4) := hb
              clear hb c0
              cases hd with
              | some z =>
                have HNX : Hid (Lk.adds who s (ps.take (k + 1)) = s1) := (show Lk.adds who s (ps.take (k + 1)) = s1 by
                  rw [Lk.adds_snoc who s HP.out.1, ← HFI.out.1]
                  unfold Lk.add
                  rw [← HHD.out]
                  rfl)
                have HG : Hid (LRl w4 q (Lk.adds who s (ps.take (k + 1))) F1 ∧ Moved w w4 F F1) := ⟨by rw [HNX.out]; exact LRl.keep HL1.out fun k hk => HB4.out.block k (LRl.lt HL1.out hk), HW.out.2.later HB4.out⟩
                simp only [Option.getD_some, Option.isSome_some]
                go_wp2
                go_roundw
                case rel => exact ⟨k + 1, F1, by omega, by go_num, HG.out.1, HG.out.2⟩
                case measure => simp [intOf]; omega
              | none =>
                have HNX : Hid (Lk.adds who s (ps.take (k + 1)) = s1 ++ [⟨p, who⟩]) := (show Lk.adds who s (ps.take (k + 1)) = s1 ++ [⟨p, who⟩] by
                  rw [Lk.adds_snoc who s HP.out.1, ← HFI.out.1]
                  unfold Lk.add
                  rw [← HHD.out]
                  rfl)
                simp only [Option.getD_none, Option.isSome_none]
                obtain ⟨v1, hv1, hF1⟩ := HL1.out
                obtain ⟨N, hN⟩ : ∃ N, N = s1.length := ⟨_, rfl⟩
                have hr := hv1.row
                rw [← hN] at hr
                obtain ⟨a, c, rfl, _, _⟩ := row_form hr
                subst hF1
                have H4 : Hid (Ll17 w4 q s1 (.slice a N c) ∧ Below wr.heap.size wr w4) := ⟨hv1.later HB4.out, HB4.out⟩
                have HNN : Hid (N = s1.length ∧ s1.length ≤ 1000) := ⟨hN, HFI.out.2.2.1⟩
                have c4 : w4.cell? ⟨q, 0, none⟩ = some (.slice a N c) := H4.out.1.blk.cell 0
                clear hr hv1 hN HL1 HB4 c4
                obtain ⟨F1, hF1⟩ : ∃ F1, F1 = Fl17 (.slice a N c) q := ⟨_, rfl⟩
                rw [← hF1] at HW
                have HW2 : Hid (Moved w wr F (Fl17 (.slice a N c) q)) := (show Moved w wr F (Fl17 (.slice a N c) q) by rw [← hF1]; exact HW.out.2)
                clear hF1
                go_upto_region 16 with fail
                refine wp_region_T (fun w' => w'.cell? ⟨q, 0, none⟩ = some (.slice a N c) ∧ w'.cell? ⟨g, o + k, none⟩ = some (.string p)) 17 (by kernel_rfl) ?_
                have H3 : Hid (Ll17 w4.drew q s1 (.slice a N c) ∧ Below wr.heap.size wr w4.drew) := ⟨H4.out.1.later (Below.refl _ _).drew, H4.out.2.drew⟩
                clear H4
                generalize w4.drew = wX at *
                have HSO : Hid (∀ w', Below wX.heap.size wX w' → Slk w' (.slice a N c) s1) := fun w' hb => Slk.row (H3.out.1.later hb).row
                have HSX : Hid (∀ w', Below wX.heap.size wX w' → w'.cell? ⟨q, 0, none⟩ = some (.slice a N c) ∧ w'.cell? ⟨g, o + k, none⟩ = some (.string p)) := fun w' hb => ⟨(H3.out.1.later hb).blk.cell 0, HP.out.2.2 w' F1 (HW.out.2.later (H3.out.2.trans (hb.mono H3.out.2.size)))⟩
                refine' take_T (i := 0) (d := 63) (v := _) rfl rfl (by kernel_rfl) (by kernel_rfl) (by kernel_rfl) (by kernel_rfl) (by kernel_rfl) (fun _ _ _ h => h) (Or.inl ⟨by rfl, ?h0⟩) (HSX.out _ (Below.refl _ _)) ?_
                case h0 =>
                  intro w hSw
                  obtain ⟨t0, t1⟩ := hSw
                  go_simp
                  with_reducible rfl
                simp only [List.setIfInBounds_toArray, List.set_cons_zero, List.set_cons_succ]
                refine' take_T (i := 2) (d := 65) (v := _) rfl rfl (by kernel_rfl) (by kernel_rfl) (by kernel_rfl) (by kernel_rfl) (by kernel_rfl) (fun _ _ _ h => h) (Or.inl ⟨by rfl, ?h2⟩) (HSX.out _ (Below.refl _ _)) ?_
                case h2 =>
                  intro w hSw
                  obtain ⟨t0, t1⟩ := hSw
                  go_simp
                  with_reducible rfl
                simp only [List.setIfInBounds_toArray, List.set_cons_zero, List.set_cons_succ]
                refine' take_T (i := 3) (d := 66) (v := _) rfl rfl (by kernel_rfl) (by kernel_rfl) (by kernel_rfl) (by kernel_rfl) (by kernel_rfl) (fun _ _ _ h => h) (Or.inl ⟨by rfl, ?h3⟩) (HSX.out _ (Below.refl _ _)) ?_
                case h3 =>
                  intro w hSw
                  obtain ⟨t0, t1⟩ := hSw
                  go_simp
                  with_reducible rfl
                simp only [List.setIfInBounds_toArray, List.set_cons_zero, List.set_cons_succ]
                refine' take_T (i := 4) (d := 67) (v := _) rfl rfl (by kernel_rfl) (by kernel_rfl) (by kernel_rfl) (by kernel_rfl) (by kernel_rfl) (fun _ _ _ h => h) (Or.inl ⟨by rfl, ?h4⟩) (HSX.out _ (Below.refl _ _)) ?_
                case h4 =>
                  intro w hSw
                  obtain ⟨t0, t1⟩ := hSw
                  go_simp
                  with_reducible rfl
                simp only [List.setIfInBounds_toArray, List.set_cons_zero, List.set_cons_succ]
                refine' take_T (i := 5) (d := 68) (v := _) rfl rfl (by kernel_rfl) (by kernel_rfl) (by kernel_rfl) (by kernel_rfl) (by kernel_rfl) (fun _ _ _ h => h) (Or.inl ⟨by rfl, ?h5⟩) (HSX.out _ (Below.refl _ _)) ?_
                case h5 =>
                  intro w hSw
                  obtain ⟨t0, t1⟩ := hSw
                  go_simp
                  with_reducible rfl
                simp only [List.setIfInBounds_toArray, List.set_cons_zero, List.set_cons_succ]
                refine' take_T (i := 7) (d := 70) (v := _) rfl rfl (by kernel_rfl) (by kernel_rfl) (by kernel_rfl) (by kernel_rfl) (by kernel_rfl) (fun _ _ _ h => h) (Or.inl ⟨by rfl, ?h7⟩) (HSX.out _ (Below.refl _ _)) ?_
                case h7 =>
                  intro w hSw
                  obtain ⟨t0, t1⟩ := hSw
                  go_simp
                  with_reducible rfl
                simp only [List.setIfInBounds_toArray, List.set_cons_zero, List.set_cons_succ]
                refine' take_T (i := 8) (d := 71) (v := _) rfl rfl (by kernel_rfl) (by kernel_rfl) (by kernel_rfl) (by kernel_rfl) (by kernel_rfl) (fun _ _ _ h => h) (Or.inl ⟨by rfl, ?h8⟩) (HSX.out _ (Below.refl _ _)) ?_
                case h8 =>
                  intro w hSw
                  obtain ⟨t0, t1⟩ := hSw
                  go_simp
                  with_reducible rfl
                simp only [List.setIfInBounds_toArray, List.set_cons_zero, List.set_cons_succ]
                refine' take_T (i := 9) (d := 72) (v := _) rfl rfl (by kernel_rfl) (by kernel_rfl) (by kernel_rfl) (by kernel_rfl) (by kernel_rfl) (fun _ _ _ h => h) (Or.inl ⟨by rfl, ?h9⟩) (HSX.out _ (Below.refl _ _)) ?_
                case h9 =>
                  intro w hSw
                  obtain ⟨t0, t1⟩ := hSw
                  go_simp
                  with_reducible rfl
                simp only [List.setIfInBounds_toArray, List.set_cons_zero, List.set_cons_succ]
                refine' take_T (i := 10) (d := 73) (v := _) rfl rfl (by kernel_rfl) (by kernel_rfl) (by kernel_rfl) (by kernel_rfl) (by kernel_rfl) (fun _ _ _ h => h) (Or.inl ⟨by rfl, ?h10⟩) (HSX.out _ (Below.refl _ _)) ?_
                case h10 =>
                  intro w hSw
                  obtain ⟨t0, t1⟩ := hSw
                  go_simp
                  with_reducible rfl
                simp only [List.setIfInBounds_toArray, List.set_cons_zero, List.set_cons_succ]
                refine' take_T (i := 11) (d := 74) (v := _) rfl rfl (by kernel_rfl) (by kernel_rfl) (by kernel_rfl) (by kernel_rfl) (by kernel_rfl) (fun _ _ _ h => h) (Or.inl ⟨by rfl, ?h11⟩) (HSX.out _ (Below.refl _ _)) ?_
                case h11 =>
                  intro w hSw
                  obtain ⟨t0, t1⟩ := hSw
                  go_simp
                  with_reducible rfl
                simp only [List.setIfInBounds_toArray, List.set_cons_zero, List.set_cons_succ]
                refine' take_T (i := 12) (d := 75) (v := _) rfl rfl (by kernel_rfl) (by kernel_rfl) (by kernel_rfl) (by kernel_rfl) (by kernel_rfl) (fun _ _ _ h => h) (Or.inl ⟨by rfl, ?h12⟩) (HSX.out _ (Below.refl _ _)) ?_
                case h12 =>
                  intro w hSw
                  obtain ⟨t0, t1⟩ := hSw
                  go_simp
                  with_reducible rfl
                simp only [List.setIfInBounds_toArray, List.set_cons_zero, List.set_cons_succ]
                have HBX : Hid (Below wX.heap.size wX wX) := Below.refl _ _
                refine wpAnyT_ready (rs := [1, 13]) (by kernel_rfl) (by simp) ?_
                refine AllReadyT.cons (o := _) rfl (fun KQ hKQ => ?_) (AllReadyT.cons (o := _) rfl (fun KQ hKQ => ?_) AllReadyT.nil)
                · as_aux_lemma =>
                    go_simp
                    obtain ⟨nb, hnb⟩ : ∃ z, z = wX.heap.size := ⟨_, rfl⟩
                    rw [← hnb]
                    have H4 : Hid (Below wX.heap.size wX (wX.alloc (.cells #[] 60)) ∧ (wX.alloc (.cells #[] 60)).ownsRow wX.heap.size 60 2 (.slice (some ⟨nb, 0, none⟩) 0 0) ([] : List Lk.Hd).length (lkcs []) ∧ wX.heap.size ≤ nb ∧ Below wX.heap.size wX (wX.alloc (.cells #[] 60))) := by
                      rw [hnb]
                      exact ⟨HBX.out.alloc HBX.out.size _, World.ownsRow_made wX #[] 0 HBX.out.size (by decide) rfl, Nat.le_refl _, (Below.refl _ _).alloc (Nat.le_refl _) _⟩
                    clear hnb
                    generalize wX.alloc (.cells #[] 60) = w4 at *
                    refine hKQ.out _ _ (fun _ => HSX.out _ H4.out.1) ?_
                    clear hKQ KQ
                    refine wpAnyT_ready (rs := [6, 13]) (by kernel_rfl) (by simp) ?_
                    refine AllReadyT.cons (o := _) rfl (fun KQ hKQ => ?_) (AllReadyT.cons (o := _) rfl (fun KQ hKQ => ?_) AllReadyT.nil)
                    · refine wp_lkcd17 infoHr Tryd.underlying34 _ _ rfl 69 rfl wX.heap.size (.slice (some ⟨nb, 0, none⟩) 0 0) (.slice a N c) [] s1 w4 rfl rfl H4.out.2.1 H4.out.1.size (HSO.out _ H4.out.1) (by have := HNN.out; simp only [List.length_nil]; omega) ?_
                      intro v5 w5 hr5 hb5 hg5 hv5
                      have H5 : Hid (Below wX.heap.size wX w5 ∧ w5.ownsRow wX.heap.size 60 2 v5 s1.length (lkcs s1)) := ⟨H4.out.1.trans hb5, hr5⟩
                      clear hr5 hb5 hg5 hv5 H4
                      refine hKQ.out _ _ (fun _ => HSX.out _ H5.out.1) ?_
                      clear hKQ KQ
                      simp only [List.setIfInBounds_toArray, List.set_cons_zero, List.set_cons_succ]
                      refine wpAnyT_ready (rs := [13]) (by kernel_rfl) (by simp) ?_
                      refine AllReadyT.cons (o := _) rfl (fun KQ hKQ => ?_) AllReadyT.nil
                      go_simp
                      obtain ⟨sb, hsb⟩ : ∃ z, z = w5.heap.size := ⟨_, rfl⟩
                      rw [← hsb]
                      have H6 : Hid (Below wX.heap.size wX (w5.alloc (.cells #[.string p, .int .i64 who] 60)) ∧ Cb (w5.alloc (.cells #[.string p, .int .i64 who] 60)) sb (lkc ⟨p, who⟩) 60 ∧ w5.heap.size ≤ sb) := by
                        rw [hsb]
                        exact ⟨H5.out.1.alloc H5.out.1.size _, Cb.made w5 (lkc ⟨p, who⟩) _, Nat.le_refl _⟩
                      clear hsb
                      have H66 : Hid (Below wX.heap.size wX (w5.alloc (.cells #[.string p, .int .i64 who] 60)) ∧ (w5.alloc (.cells #[.string p, .int .i64 who] 60)).ownsRow wX.heap.size 60 2 v5 s1.length (lkcs s1) ∧ Cb (w5.alloc (.cells #[.string p, .int .i64 who] 60)) sb (lkc ⟨p, who⟩) 60) := ⟨H6.out.1, H5.out.2.alloc _, H6.out.2.1⟩
                      clear H5 H6
                      generalize (w5.alloc (.cells #[.string p, .int .i64 who] 60)) = w6 at *
                      refine hKQ.out _ _ (fun _ => HSX.out _ H66.out.1) ?_
                      clear hKQ KQ
                      refine wpAnyT_ready (rs := [14]) (by kernel_rfl) (by simp) ?_
                      refine AllReadyT.cons (o := _) rfl (fun KQ hKQ => ?_) AllReadyT.nil
                      refine wp_lkcd17 infoHr Tryd.underlying34 _ _ rfl 77 rfl wX.heap.size v5 (.slice (some ⟨sb, 0, none⟩) 1 1) s1 [(⟨p, who⟩ : Lk.Hd)] w6 rfl rfl H66.out.2.1 H66.out.1.size (Slk.one H66.out.2.2) (by have := HNN.out; simp only [List.length_singleton]; omega) ?_
                      intro v8 w8 hr8 hb8 hg8 hv8
                      have H8 : Hid (Below wX.heap.size wX w8 ∧ Ll17 (w8.setCell ⟨q, 0, none⟩ v8) q (s1 ++ [⟨p, who⟩]) v8 ∧ Moved wX (w8.setCell ⟨q, 0, none⟩ v8) (Fl17 (.slice a N c) q) (Fl17 v8 q)) := by
                        have hb := H66.out.1.trans hb8
                        have h := H3.out.1.put hb hr8
                        exact ⟨hb, h.1, h.2⟩
                      obtain ⟨a8, c8, e8, j1, j2⟩ := row_form hr8
                      obtain ⟨N8, hN8⟩ : ∃ z, z = (s1 ++ [(⟨p, who⟩ : Lk.Hd)]).length := ⟨_, rfl⟩
                      rw [← hN8] at e8
                      subst e8
                      clear hr8 hb8 hg8 hv8 j1 j2 hN8 H66
                      refine hKQ.out _ _ (fun _ => HSX.out _ H8.out.1) ?_
                      clear hKQ KQ
                      simp only [List.setIfInBounds_toArray, List.set_cons_zero, List.set_cons_succ]
                      refine' take_T (i := 15) (d := 78) (v := _) rfl rfl (by kernel_rfl) (by kernel_rfl) (by kernel_rfl) (by kernel_rfl) (by kernel_rfl) (fun _ _ _ h => h) (Or.inl ⟨by rfl, ?h15⟩) (HSX.out _ H8.out.1) ?_
                      case h15 =>
                        intro w hSw
                        go_simp
                        with_reducible rfl
                      simp only [List.setIfInBounds_toArray, List.set_cons_zero, List.set_cons_succ]
                      refine' take_T (i := 16) (d := 79) (v := _) rfl rfl (by kernel_rfl) (by kernel_rfl) (by kernel_rfl) (by kernel_rfl) (by kernel_rfl) (fun _ _ _ h => h) (Or.inl ⟨by rfl, ?h16⟩) (HSX.out _ H8.out.1) ?_
                      case h16 =>
                        intro w hSw
                        go_simp
                        with_reducible rfl
                      simp only [List.setIfInBounds_toArray, List.set_cons_zero, List.set_cons_succ]
                      refine wpAnyT_ready (rs := [17]) (by kernel_rfl) (by simp) ?_
                      refine AllReadyT.cons (o := _) rfl (fun KQ hKQ => ?_) AllReadyT.nil
                      have d2 : w8.cell? ⟨q, 0, none⟩ = some (.slice a N c) := (HSX.out _ H8.out.1).1
                      have f2 : w8.frozen? ⟨q, 0, none⟩ = false := (H3.out.1.later H8.out.1).blk.free 0
                      go_simp
                      clear d2 f2
                      have HE : Hid (Ll17 (w8.setCell ⟨q, 0, none⟩ (.slice a8 N8 c8)) q (s1 ++ [⟨p, who⟩]) (.slice a8 N8 c8) ∧ Moved wr (w8.setCell ⟨q, 0, none⟩ (.slice a8 N8 c8)) (Fl17 (.slice a N c) q) (Fl17 (.slice a8 N8 c8) q)) := ⟨H8.out.2.1, (Moved.of_below _ H3.out.2).trans H8.out.2.2⟩
                      clear H8 HSX HSO H3
                      generalize w8.setCell ⟨q, 0, none⟩ (.slice a8 N8 c8) = w9 at *
                      refine hKQ.out _ _ (fun h => absurd rfl h) ?_
                      clear hKQ KQ
                      refine wpAnyT_done (by kernel_rfl) ?_ _
                      have HG : Hid (LRl w9 q (Lk.adds who s (ps.take (k + 1))) (Fl17 (.slice a8 N8 c8) q) ∧ Moved w w9 F (Fl17 (.slice a8 N8 c8) q)) := ⟨⟨_, by rw [HNX.out]; exact HE.out.1, rfl⟩, HW2.out.trans HE.out.2⟩
                      go_wp2
                      go_roundw
                      case rel => exact ⟨k + 1, Fl17 (.slice a8 N8 c8) q, by omega, by go_num, HG.out.1, HG.out.2⟩
                      case measure => simp [intOf]; omega
                    · go_simp
                      obtain ⟨sb, hsb⟩ : ∃ z, z = w4.heap.size := ⟨_, rfl⟩
                      rw [← hsb]
                      have H5 : Hid (Below wX.heap.size wX (w4.alloc (.cells #[.string p, .int .i64 who] 60)) ∧ Cb (w4.alloc (.cells #[.string p, .int .i64 who] 60)) sb (lkc ⟨p, who⟩) 60 ∧ w4.heap.size ≤ sb) := by
                        rw [hsb]
                        exact ⟨H4.out.1.alloc H4.out.1.size _, Cb.made w4 (lkc ⟨p, who⟩) _, Nat.le_refl _⟩
                      clear hsb
                      have H55 : Hid (Below wX.heap.size wX (w4.alloc (.cells #[.string p, .int .i64 who] 60)) ∧ (w4.alloc (.cells #[.string p, .int .i64 who] 60)).ownsRow wX.heap.size 60 2 (.slice (some ⟨nb, 0, none⟩) 0 0) ([] : List Lk.Hd).length (lkcs []) ∧ Cb (w4.alloc (.cells #[.string p, .int .i64 who] 60)) sb (lkc ⟨p, who⟩) 60 ∧ nb ≠ sb) := ⟨H5.out.1, H4.out.2.1.alloc _, H5.out.2.1, fun e => by have h1 := (H4.out.2.1.lt nb rfl).2; have h2 := H5.out.2.2; omega⟩
                      clear H4 H5
                      generalize (w4.alloc (.cells #[.string p, .int .i64 who] 60)) = w5 at *
                      refine hKQ.out _ _ (fun _ => HSX.out _ H55.out.1) ?_
                      clear hKQ KQ
                      refine wpAnyT_ready (rs := [6]) (by kernel_rfl) (by simp) ?_
                      refine AllReadyT.cons (o := _) rfl (fun KQ hKQ => ?_) AllReadyT.nil
                      refine wp_lkcd17 infoHr Tryd.underlying34 _ _ rfl 69 rfl wX.heap.size (.slice (some ⟨nb, 0, none⟩) 0 0) (.slice a N c) [] s1 w5 rfl rfl H55.out.2.1 H55.out.1.size (HSO.out _ H55.out.1) (by have := HNN.out; simp only [List.length_nil]; omega) ?_
                      intro v5 w6 hr6 hb6 hg6 hv6
                      have H66 : Hid (Below wX.heap.size wX w6 ∧ w6.ownsRow wX.heap.size 60 2 v5 s1.length (lkcs s1) ∧ Cb w6 sb (lkc ⟨p, who⟩) 60) := ⟨H55.out.1.trans hb6, hr6, H55.out.2.2.1.keep (hg6.block sb H55.out.2.2.1.lt (fun e => H55.out.2.2.2 (by simpa [Value.ownBlock] using e.symm)))⟩
                      clear hr6 hb6 hg6 hv6 H55
                      refine hKQ.out _ _ (fun _ => HSX.out _ H66.out.1) ?_
                      clear hKQ KQ
                      simp only [List.setIfInBounds_toArray, List.set_cons_zero, List.set_cons_succ]
                      refine wpAnyT_ready (rs := [14]) (by kernel_rfl) (by simp) ?_
                      refine AllReadyT.cons (o := _) rfl (fun KQ hKQ => ?_) AllReadyT.nil
                      refine wp_lkcd17 infoHr Tryd.underlying34 _ _ rfl 77 rfl wX.heap.size v5 (.slice (some ⟨sb, 0, none⟩) 1 1) s1 [(⟨p, who⟩ : Lk.Hd)] w6 rfl rfl H66.out.2.1 H66.out.1.size (Slk.one H66.out.2.2) (by have := HNN.out; simp only [List.length_singleton]; omega) ?_
                      intro v8 w8 hr8 hb8 hg8 hv8
                      have H8 : Hid (Below wX.heap.size wX w8 ∧ Ll17 (w8.setCell ⟨q, 0, none⟩ v8) q (s1 ++ [⟨p, who⟩]) v8 ∧ Moved wX (w8.setCell ⟨q, 0, none⟩ v8) (Fl17 (.slice a N c) q) (Fl17 v8 q)) := by
                        have hb := H66.out.1.trans hb8
                        have h := H3.out.1.put hb hr8
                        exact ⟨hb, h.1, h.2⟩
                      obtain ⟨a8, c8, e8, j1, j2⟩ := row_form hr8
                      obtain ⟨N8, hN8⟩ : ∃ z, z = (s1 ++ [(⟨p, who⟩ : Lk.Hd)]).length := ⟨_, rfl⟩
                      rw [← hN8] at e8
                      subst e8
                      clear hr8 hb8 hg8 hv8 j1 j2 hN8 H66
                      refine hKQ.out _ _ (fun _ => HSX.out _ H8.out.1) ?_
                      clear hKQ KQ
                      simp only [List.setIfInBounds_toArray, List.set_cons_zero, List.set_cons_succ]
                      refine' take_T (i := 15) (d := 78) (v := _) rfl rfl (by kernel_rfl) (by kernel_rfl) (by kernel_rfl) (by kernel_rfl) (by kernel_rfl) (fun _ _ _ h => h) (Or.inl ⟨by rfl, ?h15⟩) (HSX.out _ H8.out.1) ?_
                      case h15 =>
                        intro w hSw
                        go_simp
                        with_reducible rfl
                      simp only [List.setIfInBounds_toArray, List.set_cons_zero, List.set_cons_succ]
                      refine' take_T (i := 16) (d := 79) (v := _) rfl rfl (by kernel_rfl) (by kernel_rfl) (by kernel_rfl) (by kernel_rfl) (by kernel_rfl) (fun _ _ _ h => h) (Or.inl ⟨by rfl, ?h16⟩) (HSX.out _ H8.out.1) ?_
                      case h16 =>
                        intro w hSw
                        go_simp
                        with_reducible rfl
                      simp only [List.setIfInBounds_toArray, List.set_cons_zero, List.set_cons_succ]
                      refine wpAnyT_ready (rs := [17]) (by kernel_rfl) (by simp) ?_
                      refine AllReadyT.cons (o := _) rfl (fun KQ hKQ => ?_) AllReadyT.nil
                      have d2 : w8.cell? ⟨q, 0, none⟩ = some (.slice a N c) := (HSX.out _ H8.out.1).1
                      have f2 : w8.frozen? ⟨q, 0, none⟩ = false := (H3.out.1.later H8.out.1).blk.free 0
                      go_simp
                      clear d2 f2
                      have HE : Hid (Ll17 (w8.setCell ⟨q, 0, none⟩ (.slice a8 N8 c8)) q (s1 ++ [⟨p, who⟩]) (.slice a8 N8 c8) ∧ Moved wr (w8.setCell ⟨q, 0, none⟩ (.slice a8 N8 c8)) (Fl17 (.slice a N c) q) (Fl17 (.slice a8 N8 c8) q)) := ⟨H8.out.2.1, (Moved.of_below _ H3.out.2).trans H8.out.2.2⟩
                      clear H8 HSX HSO H3
                      generalize w8.setCell ⟨q, 0, none⟩ (.slice a8 N8 c8) = w9 at *
                      refine hKQ.out _ _ (fun h => absurd rfl h) ?_
                      clear hKQ KQ
                      refine wpAnyT_done (by kernel_rfl) ?_ _
                      have HG : Hid (LRl w9 q (Lk.adds who s (ps.take (k + 1))) (Fl17 (.slice a8 N8 c8) q) ∧ Moved w w9 F (Fl17 (.slice a8 N8 c8) q)) := ⟨⟨_, by rw [HNX.out]; exact HE.out.1, rfl⟩, HW2.out.trans HE.out.2⟩
                      go_wp2
                      go_roundw
                      case rel => exact ⟨k + 1, Fl17 (.slice a8 N8 c8) q, by omega, by go_num, HG.out.1, HG.out.2⟩
                      case measure => simp [intOf]; omega
                · as_aux_lemma =>
                    go_simp
                    obtain ⟨sb, hsb⟩ : ∃ z, z = wX.heap.size := ⟨_, rfl⟩
                    rw [← hsb]
                    have H4 : Hid (Below wX.heap.size wX (wX.alloc (.cells #[.string p, .int .i64 who] 60)) ∧ Cb (wX.alloc (.cells #[.string p, .int .i64 who] 60)) sb (lkc ⟨p, who⟩) 60 ∧ wX.heap.size ≤ sb) := by
                      rw [hsb]
                      exact ⟨HBX.out.alloc HBX.out.size _, Cb.made wX (lkc ⟨p, who⟩) _, Nat.le_refl _⟩
                    clear hsb
                    have H44 : Hid (Below wX.heap.size wX (wX.alloc (.cells #[.string p, .int .i64 who] 60)) ∧ Cb (wX.alloc (.cells #[.string p, .int .i64 who] 60)) sb (lkc ⟨p, who⟩) 60) := ⟨H4.out.1, H4.out.2.1⟩
                    clear H4
                    generalize (wX.alloc (.cells #[.string p, .int .i64 who] 60)) = w4 at *
                    refine hKQ.out _ _ (fun _ => HSX.out _ H44.out.1) ?_
                    clear hKQ KQ
                    refine wpAnyT_ready (rs := [1]) (by kernel_rfl) (by simp) ?_
                    refine AllReadyT.cons (o := _) rfl (fun KQ hKQ => ?_) AllReadyT.nil
                    go_simp
                    obtain ⟨nb, hnb⟩ : ∃ z, z = w4.heap.size := ⟨_, rfl⟩
                    rw [← hnb]
                    have H5 : Hid (Below wX.heap.size wX (w4.alloc (.cells #[] 60)) ∧ (w4.alloc (.cells #[] 60)).ownsRow wX.heap.size 60 2 (.slice (some ⟨nb, 0, none⟩) 0 0) ([] : List Lk.Hd).length (lkcs []) ∧ w4.heap.size ≤ nb ∧ Below w4.heap.size w4 (w4.alloc (.cells #[] 60))) := by
                      rw [hnb]
                      exact ⟨H44.out.1.alloc H44.out.1.size _, World.ownsRow_made w4 #[] 0 H44.out.1.size (by decide) rfl, Nat.le_refl _, (Below.refl _ _).alloc (Nat.le_refl _) _⟩
                    clear hnb
                    generalize w4.alloc (.cells #[] 60) = w5 at *
                    refine hKQ.out _ _ (fun _ => HSX.out _ H5.out.1) ?_
                    clear hKQ KQ
                    have H55 : Hid (Below wX.heap.size wX w5 ∧ w5.ownsRow wX.heap.size 60 2 (.slice (some ⟨nb, 0, none⟩) 0 0) ([] : List Lk.Hd).length (lkcs []) ∧ Cb w5 sb (lkc ⟨p, who⟩) 60 ∧ nb ≠ sb) := ⟨H5.out.1, H5.out.2.1, H44.out.2.below H5.out.2.2.2, fun e => by have h1 := H44.out.2.lt; have h2 := H5.out.2.2.1; omega⟩
                    clear H44 H5
                    refine wpAnyT_ready (rs := [6]) (by kernel_rfl) (by simp) ?_
                    refine AllReadyT.cons (o := _) rfl (fun KQ hKQ => ?_) AllReadyT.nil
                    refine wp_lkcd17 infoHr Tryd.underlying34 _ _ rfl 69 rfl wX.heap.size (.slice (some ⟨nb, 0, none⟩) 0 0) (.slice a N c) [] s1 w5 rfl rfl H55.out.2.1 H55.out.1.size (HSO.out _ H55.out.1) (by have := HNN.out; simp only [List.length_nil]; omega) ?_
                    intro v5 w6 hr6 hb6 hg6 hv6
                    have H66 : Hid (Below wX.heap.size wX w6 ∧ w6.ownsRow wX.heap.size 60 2 v5 s1.length (lkcs s1) ∧ Cb w6 sb (lkc ⟨p, who⟩) 60) := ⟨H55.out.1.trans hb6, hr6, H55.out.2.2.1.keep (hg6.block sb H55.out.2.2.1.lt (fun e => H55.out.2.2.2 (by simpa [Value.ownBlock] using e.symm)))⟩
                    clear hr6 hb6 hg6 hv6 H55
                    refine hKQ.out _ _ (fun _ => HSX.out _ H66.out.1) ?_
                    clear hKQ KQ
                    simp only [List.setIfInBounds_toArray, List.set_cons_zero, List.set_cons_succ]
                    refine wpAnyT_ready (rs := [14]) (by kernel_rfl) (by simp) ?_
                    refine AllReadyT.cons (o := _) rfl (fun KQ hKQ => ?_) AllReadyT.nil
                    refine wp_lkcd17 infoHr Tryd.underlying34 _ _ rfl 77 rfl wX.heap.size v5 (.slice (some ⟨sb, 0, none⟩) 1 1) s1 [(⟨p, who⟩ : Lk.Hd)] w6 rfl rfl H66.out.2.1 H66.out.1.size (Slk.one H66.out.2.2) (by have := HNN.out; simp only [List.length_singleton]; omega) ?_
                    intro v8 w8 hr8 hb8 hg8 hv8
                    have H8 : Hid (Below wX.heap.size wX w8 ∧ Ll17 (w8.setCell ⟨q, 0, none⟩ v8) q (s1 ++ [⟨p, who⟩]) v8 ∧ Moved wX (w8.setCell ⟨q, 0, none⟩ v8) (Fl17 (.slice a N c) q) (Fl17 v8 q)) := by
                      have hb := H66.out.1.trans hb8
                      have h := H3.out.1.put hb hr8
                      exact ⟨hb, h.1, h.2⟩
                    obtain ⟨a8, c8, e8, j1, j2⟩ := row_form hr8
                    obtain ⟨N8, hN8⟩ : ∃ z, z = (s1 ++ [(⟨p, who⟩ : Lk.Hd)]).length := ⟨_, rfl⟩
                    rw [← hN8] at e8
                    subst e8
                    clear hr8 hb8 hg8 hv8 j1 j2 hN8 H66
                    refine hKQ.out _ _ (fun _ => HSX.out _ H8.out.1) ?_
                    clear hKQ KQ
                    simp only [List.setIfInBounds_toArray, List.set_cons_zero, List.set_cons_succ]
                    refine' take_T (i := 15) (d := 78) (v := _) rfl rfl (by kernel_rfl) (by kernel_rfl) (by kernel_rfl) (by kernel_rfl) (by kernel_rfl) (fun _ _ _ h => h) (Or.inl ⟨by rfl, ?h15⟩) (HSX.out _ H8.out.1) ?_
                    case h15 =>
                      intro w hSw
                      go_simp
                      with_reducible rfl
                    simp only [List.setIfInBounds_toArray, List.set_cons_zero, List.set_cons_succ]
                    refine' take_T (i := 16) (d := 79) (v := _) rfl rfl (by kernel_rfl) (by kernel_rfl) (by kernel_rfl) (by kernel_rfl) (by kernel_rfl) (fun _ _ _ h => h) (Or.inl ⟨by rfl, ?h16⟩) (HSX.out _ H8.out.1) ?_
                    case h16 =>
                      intro w hSw
                      go_simp
                      with_reducible rfl
                    simp only [List.setIfInBounds_toArray, List.set_cons_zero, List.set_cons_succ]
                    refine wpAnyT_ready (rs := [17]) (by kernel_rfl) (by simp) ?_
                    refine AllReadyT.cons (o := _) rfl (fun KQ hKQ => ?_) AllReadyT.nil
                    have d2 : w8.cell? ⟨q, 0, none⟩ = some (.slice a N c) := (HSX.out _ H8.out.1).1
                    have f2 : w8.frozen? ⟨q, 0, none⟩ = false := (H3.out.1.later H8.out.1).blk.free 0
                    go_simp
                    clear d2 f2
                    have HE : Hid (Ll17 (w8.setCell ⟨q, 0, none⟩ (.slice a8 N8 c8)) q (s1 ++ [⟨p, who⟩]) (.slice a8 N8 c8) ∧ Moved wr (w8.setCell ⟨q, 0, none⟩ (.slice a8 N8 c8)) (Fl17 (.slice a N c) q) (Fl17 (.slice a8 N8 c8) q)) := ⟨H8.out.2.1, (Moved.of_below _ H3.out.2).trans H8.out.2.2⟩
                    clear H8 HSX HSO H3
                    generalize w8.setCell ⟨q, 0, none⟩ (.slice a8 N8 c8) = w9 at *
                    refine hKQ.out _ _ (fun h => absurd rfl h) ?_
                    clear hKQ KQ
                    refine wpAnyT_done (by kernel_rfl) ?_ _
                    have HG : Hid (LRl w9 q (Lk.adds who s (ps.take (k + 1))) (Fl17 (.slice a8 N8 c8) q) ∧ Moved w w9 F (Fl17 (.slice a8 N8 c8) q)) := ⟨⟨_, by rw [HNX.out]; exact HE.out.1, rfl⟩, HW2.out.trans HE.out.2⟩
                    go_wp2
                    go_roundw
                    case rel => exact ⟨k + 1, Fl17 (.slice a8 N8 c8) q, by omega, by go_num, HG.out.1, HG.out.2⟩
                    case measure => simp [intOf]; omega
            · have hlt' : ¬ (k : Int) < (M : Int) := by omega
              have HG : Hid (LRl wr q (Lk.adds who s ps) F1) := (show LRl wr q (Lk.adds who s ps) F1 by
                have h := HW.out.1
                rw [List.take_of_length_le (by rw [← HU.out.2.1]; omega)] at h
                exact h)
              go_wp2
              go_ret2
              exact TakeP.yes HG.out HFN.out HW.out.2
end Go.Proofs.YtadgjinlblloiaaDoor
