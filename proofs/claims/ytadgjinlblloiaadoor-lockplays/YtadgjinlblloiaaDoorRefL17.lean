/- The reference's Locks: a block of one cell, and a row; Len, Held, Blocks. -/
import Derived.Test.YtadgjinlblloiaaDoorSpecs17
import Derived.Test.YtadgjinlblloiaaDoorHc17
import Derived.Test.YtadgjinlblloiaaDoorLApart17
namespace Go.Proofs.YtadgjinlblloiaaDoor
open Go.RowKit

theorem infoHr : (Tryd.prog.info? 60).map (fun i => (i.zero, i.size, i.bytes)) = some (some (.agg #[.string ⟨#[]⟩, .int .i64 0]), 2, 24) := by kernel_rfl
structure Ll17 (w : World) (q : Nat) (s : Lk.St) (v : Value) : Prop where
  blk : Cb w q [v] 36
  row : w.ownsRow 0 60 2 v s.length (lkcs s)
/-- The blocks. -/
def Fl17 (v : Value) (q : Nat) : Nat → Prop := fun k => v.ownBlock = some k ∨ k = q
def LRl : Rep17 := fun w q s F => ∃ v, Ll17 w q s v ∧ F = Fl17 v q
theorem LRl.lt {w : World} {q : Nat} {s : Lk.St} {F : Nat → Prop} {k : Nat} (h : LRl w q s F) (hk : F k) : k < w.heap.size := by
  obtain ⟨v, h, rfl⟩ := h
  rcases hk with hk | rfl
  · exact (h.row.lt k hk).2
  · exact h.blk.lt
theorem LRl.keep {w w' : World} {q : Nat} {s : Lk.St} {F : Nat → Prop} (h : LRl w q s F) (hk : ∀ k, F k → w'.heap[k]? = w.heap[k]?) : LRl w' q s F := by
  obtain ⟨v, h, rfl⟩ := h
  exact ⟨v, ⟨h.blk.keep (hk q (Or.inr rfl)), row_stays h.row fun k e => hk k (Or.inl e)⟩, rfl⟩
theorem Ll17.later {w w' : World} {q : Nat} {s : Lk.St} {v : Value} (h : Ll17 w q s v) (hb : Below w.heap.size w w') : Ll17 w' q s v := ⟨h.blk.below hb, row_stays h.row fun k hk => hb.block k (h.row.lt k hk).2⟩
/-- Another row in the old one's place. -/
theorem Ll17.put {w w3 : World} {q : Nat} {s s' : Lk.St} {v v' : Value} (h : Ll17 w q s v) (hb : Below w.heap.size w w3) (hr : w3.ownsRow w.heap.size 60 2 v' s'.length (lkcs s')) :
    Ll17 (w3.setCell ⟨q, 0, none⟩ v') q s' v' ∧ Moved w (w3.setCell ⟨q, 0, none⟩ v') (Fl17 v q) (Fl17 v' q) := by
  have hg := grownBy_setCell w3 ⟨q, 0, none⟩ v'
  have hq := h.blk.lt
  have hne : ∀ k, v'.ownBlock = some k → k ≠ q := fun k hk => by have := (hr.lt k hk).1; omega
  refine ⟨⟨(h.blk.below hb).set 0 v', ?_⟩, hg.os.trans hb.os, hg.tape.trans hb.tape, hg.output.trans hb.output, Nat.le_trans hb.size hg.size, fun k hk hF => ?_, fun k hk => ?_⟩
  · have hr2 : w3.ownsRow 0 60 2 v' s'.length (lkcs s') := hr.mono (Nat.zero_le _)
    exact row_stays hr2 (fun k hk => RowKit.Below.heap_setCell _ _ _ _ (hne k hk))
  · have e3 := hb.size
    rw [hg.block k (by omega) (fun e => hF (Or.inr (by simpa using e))), hb.block k hk]
  · rcases hk with hk | rfl
    · exact Or.inr (hr.lt k hk).1
    · exact Or.inl (Or.inr rfl)
theorem Lk.held_at {s : Lk.St} {p : ByteArray} {k : Nat} (h : ∀ x ∈ s.take k, x.path ≠ p) {x : Lk.Hd} (hx : s[k]? = some x) (e : x.path = p) : Lk.held s p = some x.who := by
  unfold Lk.held
  have h1 : s = s.take k ++ x :: s.drop (k + 1) := by
    have hk := (List.getElem?_eq_some_iff.1 hx).1
    have h3 := List.drop_eq_getElem_cons hk
    have h4 : s[k] = x := (List.getElem?_eq_some_iff.1 hx).2
    rw [h4] at h3
    rw [← h3, List.take_append_drop]
  rw [h1, List.find?_append]
  have h2 : (s.take k).find? (fun y => decide (y.path = p)) = none := List.find?_eq_none.2 fun y hy => by simpa using h y hy
  rw [h2]
  simp [e]
theorem Lk.good_size {p : ByteArray} (h : Lk.good p = true) : p.size ≤ maxLen := by
  have h1 := (Pl.good_parts h).2.2
  rw [Pa.sz_list] at h1
  unfold maxLen
  omega
theorem Lk.bytes_no {a b : ByteArray} (h : a ≠ b) : (a.toList == b.toList) = false := by
  cases e : (a.toList == b.toList) with
  | false => rfl
  | true => exact absurd (bytes_eq e) h
set_option maxRecDepth 20000 in
set_option maxHeartbeats 1000000 in
theorem refLen_any17 (q : Nat) (s : Lk.St) (F : Nat → Prop) (w : World) (hL : LRl w q s F) :
    Calls Tryd.prog 18 #[dptr q] w fun e w' => e = .returned (.int .i64 (s.length : Int)) ∧ Below w.heap.size w w' := by
  obtain ⟨v, h, rfl⟩ := hL
  obtain ⟨a, c, rfl, _, _⟩ := row_form h.row
  have c0 : w.cell? ⟨q, 0, none⟩ = some (.slice a s.length c) := h.blk.cell 0
  have HB : Hid (Below w.heap.size w w) := Below.refl _ _
  clear h
  unfold dptr
  go_enter Tryd.func18, Tryd.ntmps18
  go_wp2
  go_ret
  exact ⟨rfl, HB.out⟩
set_option maxRecDepth 20000 in
set_option maxHeartbeats 4000000 in
theorem refHeld_any17 (q : Nat) (s : Lk.St) (F : Nat → Prop) (m : Nat) (p : ByteArray) (w : World) (hL : LRl w q s F) (hf : Lk.Fine m s) (hm : m ≤ 1000) :
    Calls Tryd.prog 17 #[dptr q, .string p] w fun e w' => e = .returned (.tuple #[.int .i64 ((Lk.held s p).getD 0), .bool (Lk.held s p).isSome]) ∧ Below w.heap.size w w' := by
  obtain ⟨v, h, rfl⟩ := hL
  obtain ⟨N, hN⟩ : ∃ N, N = s.length := ⟨_, rfl⟩
  have hN1 : N ≤ 1000 := by have := hf.len; omega
  have hr := h.row
  rw [← hN] at hr
  obtain ⟨a, c, rfl, _, ha⟩ := row_form hr
  have H0 : Hid (Ll17 w q s (.slice a N c) ∧ N = s.length ∧ (0 < N → ∃ g, a = some ⟨g, 0, none⟩)) := ⟨h, hN, ha⟩
  clear h hf hm hN hr ha
  unfold dptr
  go_enter Tryd.func17, Tryd.ntmps17
  go_wp2
  go_loopw [6] (fun i wx => ∃ k : Nat, k ≤ N ∧ i = .int .i64 (k : Int) ∧ Below w.heap.size w wx ∧ ∀ x ∈ s.take k, x.path ≠ p) (fun i _ => N - (intOf i).toNat)
  case atStart => exact ⟨0, Nat.zero_le _, rfl, Below.refl _ _, fun x hx => by simp at hx⟩
  case round =>
    obtain ⟨k, hk, rfl, hb, hno⟩ := hrel
    have HW : Hid (Below w.heap.size w wr ∧ ∀ x ∈ s.take k, x.path ≠ p) := ⟨hb, hno⟩
    clear hb hno
    have c0 : wr.cell? ⟨q, 0, none⟩ = some (.slice a N c) := (H0.out.1.later HW.out.1).blk.cell 0
    by_cases hlt : k < N
    · have hlt' : (k : Int) < (N : Int) := by omega
      have hk0 : (0 : Int) ≤ (k : Int) := by omega
      have hwk : IntKind.wrap .i64 ((k : Int) + 1) = (k : Int) + 1 := by rw [IntKind.wrap_i64]; omega
      obtain ⟨g, hg⟩ := H0.out.2.2 (by omega)
      subst hg
      obtain ⟨x, hx⟩ : ∃ x, s[k]? = some x := ⟨s[k]'(by rw [← H0.out.2.1]; exact hlt), List.getElem?_eq_getElem _⟩
      have HX : Hid (s[k]? = some x) := hx
      have hr := (H0.out.1.later HW.out.1).row
      rw [← H0.out.2.1] at hr
      obtain ⟨r0, r1⟩ := row_at17 hr hx
      clear hx hr
      by_cases hid : x.path = p
      · have hidb : (x.path.toList == p.toList) = true := by rw [hid]; simp
        have HA : Hid (Lk.held s p = some x.who) := (show Lk.held s p = some x.who by exact Lk.held_at HW.out.2 HX.out hid)
        clear hid
        go_wp2
        go_ret2
        exact ⟨by rw [HA.out]; rfl, HW.out.1⟩
      · have hidb := Lk.bytes_no hid
        have HA : Hid (∀ y ∈ s.take (k + 1), y.path ≠ p) := (show ∀ y ∈ s.take (k + 1), y.path ≠ p by
          intro y hy
          rw [List.take_add_one, HX.out] at hy
          rcases List.mem_append.1 hy with hy | hy
          · exact HW.out.2 y hy
          · simp at hy
            rw [hy]
            exact hid)
        clear hid
        go_wp2
        go_roundw
        case rel => exact ⟨k + 1, by omega, by go_num, HW.out.1, HA.out⟩
        case measure => simp [intOf]; omega
    · have hlt' : ¬ (k : Int) < (N : Int) := by omega
      have HA : Hid (Lk.held s p = none) := (show Lk.held s p = none by
        refine Lk.held_none.2 ?_
        have h := HW.out.2
        rw [List.take_of_length_le (by rw [← H0.out.2.1]; omega)] at h
        exact h)
      go_wp2
      go_ret2
      exact ⟨by rw [HA.out]; rfl, HW.out.1⟩
set_option maxRecDepth 20000 in
set_option maxHeartbeats 8000000 in
theorem refBlocks_any17 (q : Nat) (s : Lk.St) (F : Nat → Prop) (m : Nat) (who : Int) (p : ByteArray) (w : World) (hL : LRl w q s F) (hf : Lk.Fine m s) (hm : m ≤ 1000) (hp : p.size ≤ maxLen) :
    Calls Tryd.prog 19 #[dptr q, .int .i64 who, .string p] w fun e w' => e = .returned (.bool (Lk.blocks s who p)) ∧ Below w.heap.size w w' := by
  obtain ⟨v, h, rfl⟩ := hL
  obtain ⟨N, hN⟩ : ∃ N, N = s.length := ⟨_, rfl⟩
  have hN1 : N ≤ 1000 := by have := hf.len; omega
  have hr := h.row
  rw [← hN] at hr
  obtain ⟨a, c, rfl, _, ha⟩ := row_form hr
  have H0 : Hid (Ll17 w q s (.slice a N c) ∧ N = s.length ∧ (0 < N → ∃ g, a = some ⟨g, 0, none⟩) ∧ Lk.Fine m s ∧ p.size ≤ maxLen) := ⟨h, hN, ha, hf, hp⟩
  obtain ⟨gd, hgd⟩ : ∃ z, z = Pl.goodB p.data.toList := ⟨_, rfl⟩
  have HGD : Hid (gd = Lk.good p) := hgd
  have HC : Hid (Calls Tryd.prog 21 #[.string p] w fun e w' => e = .returned (.bool gd) ∧ Below w.heap.size w w') := by
    rw [hgd]
    exact Pa.refGood_any p w hp
  clear h hf hm hN hr ha hp hgd
  unfold dptr
  go_enter Tryd.func19, Tryd.ntmps19
  go_wp2_with fail
  refine HC.out.mono ?_
  rintro e w1 ⟨rfl, hb⟩
  have H1 : Hid (Below w.heap.size w w1) := hb
  clear hb HC
  cases gd with
  | false =>
    have HA : Hid (Lk.blocks s who p = false) := (show Lk.blocks s who p = false by unfold Lk.blocks; rw [← HGD.out]; rfl)
    go_wp2
    go_ret
    exact ⟨by rw [HA.out]; rfl, H1.out⟩
  | true =>
  obtain ⟨up, hup⟩ : ∃ z, z = (if Lk.under p then Lk.up p else (⟨#[]⟩ : ByteArray)) := ⟨_, rfl⟩
  obtain ⟨un, hun⟩ : ∃ z, z = Lk.under p := ⟨_, rfl⟩
  have HG : Hid (Lk.good p = true ∧ up = (if Lk.under p then Lk.up p else (⟨#[]⟩ : ByteArray)) ∧ un = Lk.under p) := ⟨HGD.out.symm, hup, hun⟩
  clear hup hun
  go_wp2_with fail
  refine (refParent_any17 p w1 H0.out.2.2.2.2).mono ?_
  rintro e w2 ⟨rfl, hb⟩
  rw [← HG.out.2.1, ← HG.out.2.2]
  have H2 : Hid (Below w.heap.size w w2) := H1.out.trans (hb.mono H1.out.size)
  clear hb H1
  go_wp2
  go_loopw [9] (fun i wx => ∃ k : Nat, k ≤ N ∧ i = .int .i64 (k : Int) ∧ Below w.heap.size w wx ∧ ∀ x ∈ s.take k, Lk.bars who p x = false) (fun i _ => N - (intOf i).toNat)
  case atStart => exact ⟨0, Nat.zero_le _, rfl, H2.out, fun x hx => by simp at hx⟩
  case round =>
    obtain ⟨k, hk, rfl, hb, hno⟩ := hrel
    have HW : Hid (Below w.heap.size w wr ∧ ∀ x ∈ s.take k, Lk.bars who p x = false) := ⟨hb, hno⟩
    clear hb hno H2
    have c0 : wr.cell? ⟨q, 0, none⟩ = some (.slice a N c) := (H0.out.1.later HW.out.1).blk.cell 0
    by_cases hlt : k < N
    · have hlt' : (k : Int) < (N : Int) := by omega
      have hk0 : (0 : Int) ≤ (k : Int) := by omega
      have hwk : IntKind.wrap .i64 ((k : Int) + 1) = (k : Int) + 1 := by rw [IntKind.wrap_i64]; omega
      obtain ⟨g, hg⟩ := H0.out.2.2.1 (by omega)
      subst hg
      obtain ⟨x, hx⟩ : ∃ x, s[k]? = some x := ⟨s[k]'(by rw [← H0.out.2.1]; exact hlt), List.getElem?_eq_getElem _⟩
      obtain ⟨ov, hov⟩ : ∃ z, z = (if Lk.under x.path then Lk.up x.path else (⟨#[]⟩ : ByteArray)) := ⟨_, rfl⟩
      obtain ⟨hs, hhs⟩ : ∃ z, z = Lk.under x.path := ⟨_, rfl⟩
      have HX : Hid (s[k]? = some x ∧ x.path.size ≤ maxLen ∧ ov = (if Lk.under x.path then Lk.up x.path else (⟨#[]⟩ : ByteArray)) ∧ hs = Lk.under x.path) := ⟨hx, Lk.good_size (H0.out.2.2.2.1.good x (List.mem_of_getElem? hx)), hov, hhs⟩
      have hr := (H0.out.1.later HW.out.1).row
      rw [← H0.out.2.1] at hr
      obtain ⟨r0, r1⟩ := row_at17 hr hx
      clear hx hr hov hhs
      obtain ⟨xb, hxb⟩ : ∃ z, z = wr.heap.size := ⟨_, rfl⟩
      have H3 : Hid (Below w.heap.size w (wr.alloc (.cells #[.string x.path, .int .i64 x.who] 60)) ∧ Cb (wr.alloc (.cells #[.string x.path, .int .i64 x.who] 60)) xb (lkc x) 60) := by
        rw [hxb]
        exact ⟨HW.out.1.alloc HW.out.1.size _, Cb.made wr (lkc x) _⟩
      go_upto_region 8 with fail
      rw [← hxb]
      clear hxb r0 r1 c0
      generalize (wr.alloc (.cells #[.string x.path, .int .i64 x.who] 60)) = w3 at *
      have d0 : w3.cell? ⟨xb, 0, none⟩ = some (.string x.path) := H3.out.2.cell 0
      go_wp2_with fail
      refine (refParent_any17 x.path w3 HX.out.2.1).mono ?_
      rintro e w4 ⟨rfl, hb⟩
      rw [← HX.out.2.2.1, ← HX.out.2.2.2]
      have H5 : Hid (Below w.heap.size w w4 ∧ Cb w4 xb (lkc x) 60) := ⟨H3.out.1.trans (hb.mono H3.out.1.size), H3.out.2.below hb⟩
      clear hb H3 d0
      have d0 : w4.cell? ⟨xb, 0, none⟩ = some (.string x.path) := H5.out.2.cell 0
      have d1 : w4.cell? ⟨xb, 1, none⟩ = some (.int .i64 x.who) := H5.out.2.cell 1
      by_cases e0 : x.who = who
      · have b0 : (x.who != who) = false := by simp [e0]
        have HA : Hid (∀ y ∈ s.take (k + 1), Lk.bars who p y = false) := (show ∀ y ∈ s.take (k + 1), Lk.bars who p y = false by
          intro y hy
          rw [List.take_add_one, HX.out.1] at hy
          rcases List.mem_append.1 hy with hy | hy
          · exact HW.out.2 y hy
          · simp at hy
            rw [hy]
            unfold Lk.bars Lk.near
            (simp [e0]))
        (clear e0)
        go_wp2
        go_roundw
        case rel => exact ⟨k + 1, by omega, by go_num, H5.out.1, HA.out⟩
        case measure => simp [intOf]; omega
      have b0 : (x.who != who) = true := by simp [e0]
      by_cases e1 : x.path = p
      · have b1 : (x.path.toList == p.toList) = true := by rw [e1]; simp
        have HA : Hid (Lk.blocks s who p = true) := (show Lk.blocks s who p = true by
          unfold Lk.blocks
          rw [HG.out.1, Bool.true_and, List.any_eq_true]
          refine ⟨x, List.mem_of_getElem? HX.out.1, ?_⟩
          unfold Lk.bars Lk.near
          (simp [e0, e1]))
        (clear e0 e1)
        go_wp2
        go_ret
        exact ⟨by rw [HA.out]; rfl, H5.out.1⟩
      have b1 := Lk.bytes_no e1
      cases un with
      | false =>
        have h2 := HG.out.2.2
        have h2' : Lk.under p = false := h2.symm
        cases hs with
        | false =>
          have h4 := HX.out.2.2.2
          have HA : Hid (∀ y ∈ s.take (k + 1), Lk.bars who p y = false) := (show ∀ y ∈ s.take (k + 1), Lk.bars who p y = false by
            intro y hy
            rw [List.take_add_one, HX.out.1] at hy
            rcases List.mem_append.1 hy with hy | hy
            · exact HW.out.2 y hy
            · simp at hy
              rw [hy]
              unfold Lk.bars Lk.near
              (simp [e1, h2', ← h4]))
          (clear e0 e1 h2 h2' h4)
          go_wp2
          go_roundw
          case rel => exact ⟨k + 1, by omega, by go_num, H5.out.1, HA.out⟩
          case measure => simp [intOf]; omega
        | true =>
          have h4 := HX.out.2.2.2
          have h5 : ov = Lk.up x.path := by rw [HX.out.2.2.1, if_pos h4.symm]
          by_cases e3 : ov = p
          · have b3 : (ov.toList == p.toList) = true := by rw [e3]; simp
            have e4 : Lk.up x.path = p := by rw [← h5]; exact e3
            have HA : Hid (Lk.blocks s who p = true) := (show Lk.blocks s who p = true by
              unfold Lk.blocks
              rw [HG.out.1, Bool.true_and, List.any_eq_true]
              refine ⟨x, List.mem_of_getElem? HX.out.1, ?_⟩
              unfold Lk.bars Lk.near
              (simp [e0, e4, ← h4]))
            (clear e0 e1 h2 h2' h4 h5 e3 e4)
            go_wp2
            go_ret
            exact ⟨by rw [HA.out]; rfl, H5.out.1⟩
          · have b3 := Lk.bytes_no e3
            have e4 : ¬ Lk.up x.path = p := by rw [← h5]; exact e3
            have HA : Hid (∀ y ∈ s.take (k + 1), Lk.bars who p y = false) := (show ∀ y ∈ s.take (k + 1), Lk.bars who p y = false by
              intro y hy
              rw [List.take_add_one, HX.out.1] at hy
              rcases List.mem_append.1 hy with hy | hy
              · exact HW.out.2 y hy
              · simp at hy
                rw [hy]
                unfold Lk.bars Lk.near
                (simp [e1, h2', e4]))
            (clear e0 e1 h2 h2' h4 h5 e3 e4)
            go_wp2
            go_roundw
            case rel => exact ⟨k + 1, by omega, by go_num, H5.out.1, HA.out⟩
            case measure => simp [intOf]; omega
      | true =>
        have h2 := HG.out.2.2
        have h3 : up = Lk.up p := by rw [HG.out.2.1, if_pos h2.symm]
        by_cases e2 : x.path = up
        · have b2 : (x.path.toList == up.toList) = true := by rw [e2]; simp
          have e2' : x.path = Lk.up p := by rw [← h3]; exact e2
          have HA : Hid (Lk.blocks s who p = true) := (show Lk.blocks s who p = true by
            unfold Lk.blocks
            rw [HG.out.1, Bool.true_and, List.any_eq_true]
            refine ⟨x, List.mem_of_getElem? HX.out.1, ?_⟩
            unfold Lk.bars Lk.near
            (simp [e0, e2', ← h2]))
          (clear e0 e1 h2 h3 e2 e2')
          go_wp2
          go_ret
          exact ⟨by rw [HA.out]; rfl, H5.out.1⟩
        · have b2 := Lk.bytes_no e2
          have e2' : ¬ x.path = Lk.up p := by rw [← h3]; exact e2
          cases hs with
          | false =>
            have h4 := HX.out.2.2.2
            have HA : Hid (∀ y ∈ s.take (k + 1), Lk.bars who p y = false) := (show ∀ y ∈ s.take (k + 1), Lk.bars who p y = false by
              intro y hy
              rw [List.take_add_one, HX.out.1] at hy
              rcases List.mem_append.1 hy with hy | hy
              · exact HW.out.2 y hy
              · simp at hy
                rw [hy]
                unfold Lk.bars Lk.near
                (simp [e1, e2', ← h4]))
            (clear e0 e1 h2 h3 e2 e2' h4)
            go_wp2
            go_roundw
            case rel => exact ⟨k + 1, by omega, by go_num, H5.out.1, HA.out⟩
            case measure => simp [intOf]; omega
          | true =>
            have h4 := HX.out.2.2.2
            have h5 : ov = Lk.up x.path := by rw [HX.out.2.2.1, if_pos h4.symm]
            by_cases e3 : ov = p
            · have b3 : (ov.toList == p.toList) = true := by rw [e3]; simp
              have e4 : Lk.up x.path = p := by rw [← h5]; exact e3
              have HA : Hid (Lk.blocks s who p = true) := (show Lk.blocks s who p = true by
                unfold Lk.blocks
                rw [HG.out.1, Bool.true_and, List.any_eq_true]
                refine ⟨x, List.mem_of_getElem? HX.out.1, ?_⟩
                unfold Lk.bars Lk.near
                (simp [e0, e4, ← h4]))
              (clear e0 e1 h2 h3 e2 e2' h4 h5 e3 e4)
              go_wp2
              go_ret
              exact ⟨by rw [HA.out]; rfl, H5.out.1⟩
            · have b3 := Lk.bytes_no e3
              have e4 : ¬ Lk.up x.path = p := by rw [← h5]; exact e3
              have HA : Hid (∀ y ∈ s.take (k + 1), Lk.bars who p y = false) := (show ∀ y ∈ s.take (k + 1), Lk.bars who p y = false by
                intro y hy
                rw [List.take_add_one, HX.out.1] at hy
                rcases List.mem_append.1 hy with hy | hy
                · exact HW.out.2 y hy
                · simp at hy
                  rw [hy]
                  unfold Lk.bars Lk.near
                  (simp [e1, e2', e4]))
              (clear e0 e1 h2 h3 e2 e2' h4 h5 e3 e4)
              go_wp2
              go_roundw
              case rel => exact ⟨k + 1, by omega, by go_num, H5.out.1, HA.out⟩
              case measure => simp [intOf]; omega
    · have hlt' : ¬ (k : Int) < (N : Int) := by omega
      have HA : Hid (Lk.blocks s who p = false) := (show Lk.blocks s who p = false by
        unfold Lk.blocks
        have h := HW.out.2
        rw [List.take_of_length_le (by rw [← H0.out.2.1]; omega)] at h
        rw [HG.out.1, Bool.true_and, List.any_eq_false]
        intro x hx
        rw [h x hx]
        simp)
      go_wp2
      go_ret
      exact ⟨by rw [HA.out]; rfl, HW.out.1⟩
end Go.Proofs.YtadgjinlblloiaaDoor
