/- What the landed tree's place and created answer. -/
import Derived.Test.YtpidafpaffpnaaaGreatDoorWtk
import Derived.Test.YtpidafpaffpnaaaGreatDoorWGood11
import Derived.Test.YtpidafpaffpnaaaGreatDoorBas
namespace Go.Proofs.YtpidafpaffpnaaaGreatDoor
open Go.RowKit

theorem Oq.and1 (F : Int) (h0 : 0 ≤ F) (h3 : F ≤ 3) : bits .and .i64 F 1 = if F = 1 ∨ F = 3 then 1 else 0 := by
  have : F = 0 ∨ F = 1 ∨ F = 2 ∨ F = 3 := by omega
  rcases this with rfl | rfl | rfl | rfl <;> decide
section
variable {w : World} {q m : Nat} {t : Tq.Tr} {G : Nat → Prop} {D : DataW Nat} {P : ByteArray → Nat} {V : ByteArray → Value}

set_option maxRecDepth 20000 in
set_option maxHeartbeats 4000000 in
theorem place_any11 (o : O) (h : TkU w q t G m D P V) (hS : Pa.Std w) (hg : Pl.goodB o.path.data.toList = true) (hf0 : 0 ≤ o.flags) (hf3 : o.flags ≤ 3) :
    Calls Tryz.prog 117 #[dptr q, ov o] w fun e w' => e = .returned (.tuple #[.string (Tq.placeT t o).1, .int .i64 (Tq.placeT t o).2]) ∧ Below w.heap.size w w' := by
  have HBX : Hid (Box5 (w.alloc (.cells #[.int .i64 o.kind, .string o.path, .string o.data, .int .i64 o.ver, .int .i64 o.flags] 33)) w.heap.size o) := Box5.made w o _
  have HB0 : Hid (Below w.heap.size w (w.alloc (.cells #[.int .i64 o.kind, .string o.path, .string o.data, .int .i64 o.ver, .int .i64 o.flags] 33))) := (Below.refl _ w).alloc (Nat.le_refl _) _
  have HD : Hid (TkU (w.alloc (.cells #[.int .i64 o.kind, .string o.path, .string o.data, .int .i64 o.ver, .int .i64 o.flags] 33)) q t G m D P V) := h.below HB0.out
  have HS : Hid (Pa.Std (w.alloc (.cells #[.int .i64 o.kind, .string o.path, .string o.data, .int .i64 o.ver, .int .i64 o.flags] 33)) ∧ Pl.goodB o.path.data.toList = true) := ⟨hS.below HB0.out, hg⟩
  have hand : bits .and .i64 o.flags 2 = if 2 ≤ o.flags then 2 else 0 := Oq.and2 o.flags hf0 hf3
  obtain ⟨b, hbw⟩ : ∃ b, b = w.heap.size := ⟨_, rfl⟩
  rw [← hbw] at HBX
  obtain ⟨R, hR⟩ : ∃ R, R = Tq.placeT t o := ⟨_, rfl⟩
  have HR : Hid (R = Tq.placeT t o) := hR
  rw [← hR]
  clear hR h hS hg
  unfold ov
  go_enter Tryz.func117, Tryz.ntmps117
  go_wp2_with fail
  rw [← hbw]
  clear hbw
  generalize w.alloc (.cells #[.int .i64 o.kind, .string o.path, .string o.data, .int .i64 o.ver, .int .i64 o.flags] 33) = w0 at *
  refine (parent_up o.path w0 HS.out.1 HS.out.2).mono ?_
  rintro e w1 ⟨hb, hy, hn⟩
  have H1 : Hid (Box5 w1 b o ∧ TkU w1 q t G m D P V ∧ Pa.Std w1 ∧ Below w.heap.size w w1) := ⟨HBX.out.below hb, HD.out.below hb, HS.out.1.below hb, HB0.out.trans (hb.mono HB0.out.size)⟩
  clear hb
  obtain ⟨c0, c1, c2, c3, c4⟩ := H1.out.1.all
  clear c0 c2 c3
  cases hu : Tq.up o.path with
  | none =>
    obtain rfl := hn hu
    have HRR : Hid (R = (o.path, 0)) := by
      have e : R = (o.path, 0) := by rw [HR.out]; unfold Tq.placeT; rw [hu]
      exact e
    clear hu hy hn hand
    go_wp2_with fail
    refine (sclone_any10 o.path _ (by have := good_len HS.out.2; omega)).mono ?_
    rintro e w2 ⟨rfl, hb⟩
    have H2 : Hid (Below w.heap.size w w2) := H1.out.2.2.2.trans (hb.mono H1.out.2.2.2.size)
    clear hb c1 c4
    go_wp2
    go_ret2
    rw [HRR.out]
    exact ⟨rfl, H2.out⟩
  | some u =>
    obtain rfl := hy u hu
    clear hn hy
    go_wp2_with fail
    refine (above_any11 o.path H1.out.2.1 H1.out.2.2.1 HS.out.2).mono ?_
    rintro e w2 ⟨hb, hy, hn⟩
    have H2 : Hid (Box5 w2 b o ∧ TkU w2 q t G m D P V ∧ Pa.Std w2 ∧ Below w.heap.size w w2) := ⟨H1.out.1.below hb, H1.out.2.1.below hb, H1.out.2.2.1.below hb, H1.out.2.2.2.trans (hb.mono H1.out.2.2.2.size)⟩
    clear hb c1 c4
    obtain ⟨c0, c1, c2, c3, c4⟩ := H2.out.1.all
    clear c0 c2 c3
    cases hf : Tq.find t.l u with
    | none =>
      have ha : Tq.abv t.l o.path = none := by unfold Tq.abv; rw [hu]; simp only []; rw [hf]; rfl
      obtain rfl := hn ha
      have HRR : Hid (R = (⟨#[]⟩, 4)) := by
        have e : R = (⟨#[]⟩, 4) := by rw [HR.out]; unfold Tq.placeT; rw [hu]; simp only []; rw [hf]
        exact e
      clear hu hf ha hy hn hand
      go_wp2
      go_ret2
      rw [HRR.out]
      exact ⟨rfl, H2.out.2.2.2⟩
    | some mm =>
      have ha : Tq.abv t.l o.path = some (u, mm) := by unfold Tq.abv; rw [hu]; simp only []; rw [hf]; rfl
      obtain ⟨pb, hpb⟩ : ∃ pb, pb = P u := ⟨_, rfl⟩
      have he : e = .returned (.tuple #[dptr pb, .bool true]) := by rw [hpb]; exact hy _ ha
      subst he
      have HO : Hid (Own11 w2 pb mm (V u)) := by
        have e : Own11 w2 pb mm (V u) := by rw [hpb]; exact H2.out.2.1.node _ (Tq.find_some hf)
        exact e
      clear ha hy hn hpb
      go_wp2_with fail
      refine (eph_any11 pb mm (V u) w2 HO.out.blk).mono ?_
      rintro e w3 ⟨rfl, hb⟩
      have H3 : Hid (Box5 w3 b o ∧ Own11 w3 pb mm (V u) ∧ Pa.Std w3 ∧ Below w.heap.size w w3) := ⟨H2.out.1.below hb, HO.out.keep (fun k hk => hb.block k (HO.out.flt hk)), H2.out.2.2.1.below hb, H2.out.2.2.2.trans (hb.mono H2.out.2.2.2.size)⟩
      clear hb c1 c4
      obtain ⟨c0, c1, c2, c3, c4⟩ := H3.out.1.all
      clear c0 c2 c3
      by_cases ho : mm.owner = 0
      · have he0 : decide (mm.owner ≠ 0) = false := by simp [ho]
        rw [he0]
        by_cases h2 : 2 ≤ o.flags
        · rw [if_pos h2] at hand
          have n8 : w3.cell? ⟨pb, 8, none⟩ = some (.int .i64 mm.next) := H3.out.2.1.blk.cell 8
          have HRR : Hid ((∀ x, Tq.num o.path mm.next = some x → R = (x, 0)) ∧ (Tq.num o.path mm.next = none → R = (⟨#[]⟩, 1))) := by
            refine ⟨fun x hx => ?_, fun hx => ?_⟩ <;> (rw [HR.out]; unfold Tq.placeT; rw [hu]; simp only []; rw [hf]; simp only []; rw [if_neg (by simp [ho]), if_pos h2, hx])
          clear hu hf he0 ho h2
          go_wp2_with fail
          refine wp_region_held_drew (S := fun w' => Below w3.heap.size w3 w') (by kernel_rfl) (Below.refl _ _).drew (fun _ => ?_)
          have H3 : Hid (Below w3.heap.size w3 w3.drew ∧ Pa.Std w3.drew ∧ Below w.heap.size w w3.drew) := ⟨(Below.refl _ _).drew, H3.out.2.2.1.below (Below.refl _ _).drew, H3.out.2.2.2.trans ((Below.refl _ _).drew.mono H3.out.2.2.2.size)⟩
          generalize w3.drew = w3d at *
          refine' take_at (i := 0) (d := 38) (v := _) rfl rfl (by kernel_rfl) (by kernel_rfl) (by kernel_rfl) (fun _ _ _ h => h) (Or.inl ⟨by rfl, ?h0⟩) (H3.out.1) ?_
          case h0 =>
            intro w hSw
            have c1 := Below.kept hSw c1
            have n8 := Below.kept hSw n8
            go_simp
            with_reducible rfl
          simp only [List.setIfInBounds_toArray, List.set_cons_zero, List.set_cons_succ]
          refine' take_at (i := 1) (d := 39) (v := _) rfl rfl (by kernel_rfl) (by kernel_rfl) (by kernel_rfl) (fun _ _ _ h => h) (Or.inl ⟨by rfl, ?h1⟩) (H3.out.1) ?_
          case h1 =>
            intro w hSw
            have c1 := Below.kept hSw c1
            have n8 := Below.kept hSw n8
            go_simp
            with_reducible rfl
          simp only [List.setIfInBounds_toArray, List.set_cons_zero, List.set_cons_succ]
          refine' take_at (i := 2) (d := 40) (v := _) rfl rfl (by kernel_rfl) (by kernel_rfl) (by kernel_rfl) (fun _ _ _ h => h) (Or.inl ⟨by rfl, ?h2⟩) (H3.out.1) ?_
          case h2 =>
            intro w hSw
            have c1 := Below.kept hSw c1
            have n8 := Below.kept hSw n8
            go_simp
            with_reducible rfl
          simp only [List.setIfInBounds_toArray, List.set_cons_zero, List.set_cons_succ]
          refine' take_at (i := 3) (d := 41) (v := _) rfl rfl (by kernel_rfl) (by kernel_rfl) (by kernel_rfl) (fun _ _ _ h => h) (Or.inl ⟨by rfl, ?h3⟩) (H3.out.1) ?_
          case h3 =>
            intro w hSw
            have c1 := Below.kept hSw c1
            have n8 := Below.kept hSw n8
            go_simp
            with_reducible rfl
          simp only [List.setIfInBounds_toArray, List.set_cons_zero, List.set_cons_succ]
          refine' take_at (i := 4) (d := 42) (v := _) rfl rfl (by kernel_rfl) (by kernel_rfl) (by kernel_rfl) (fun _ _ _ h => h) (Or.inl ⟨by rfl, ?h4⟩) (H3.out.1) ?_
          case h4 =>
            intro w hSw
            have c1 := Below.kept hSw c1
            have n8 := Below.kept hSw n8
            go_simp
            with_reducible rfl
          simp only [List.setIfInBounds_toArray, List.set_cons_zero, List.set_cons_succ]
          refine' take_at (i := 5) (d := 43) (v := _) rfl rfl (by kernel_rfl) (by kernel_rfl) (by kernel_rfl) (fun _ _ _ h => h) (Or.inl ⟨by rfl, ?h5⟩) (H3.out.1) ?_
          case h5 =>
            intro w hSw
            have c1 := Below.kept hSw c1
            have n8 := Below.kept hSw n8
            go_simp
            with_reducible rfl
          simp only [List.setIfInBounds_toArray, List.set_cons_zero, List.set_cons_succ]
          refine' take_at (i := 6) (d := 44) (v := _) rfl rfl (by kernel_rfl) (by kernel_rfl) (by kernel_rfl) (fun _ _ _ h => h) (Or.inl ⟨by rfl, ?h6⟩) (H3.out.1) ?_
          case h6 =>
            intro w hSw
            have c1 := Below.kept hSw c1
            have n8 := Below.kept hSw n8
            go_simp
            with_reducible rfl
          simp only [List.setIfInBounds_toArray, List.set_cons_zero, List.set_cons_succ]
          refine wpAnyH_ready (rs := [7]) (by kernel_rfl) (by simp) ?_
          refine AllReadyH.cons (o := _) rfl (fun KQ hKQ => ?_) AllReadyH.nil
          go_simp
          refine (number_num o.path mm.next w3d H3.out.2.1 HS.out.2).mono ?_
          rintro e w4 ⟨hb, hy, hn⟩
          have H4 : Hid (Below w.heap.size w w4 ∧ Below w3.heap.size w3 w4) := ⟨H3.out.2.2.trans (hb.mono H3.out.2.2.size), H3.out.1.trans (hb.mono H3.out.1.size)⟩
          clear hb n8 c1 c4 hand
          cases hx : Tq.num o.path mm.next with
          | none =>
            obtain rfl := hn hx
            have HE : Hid (R = (⟨#[]⟩, 1)) := HRR.out.2 hx
            clear hx hy hn
            simp only []
            refine hKQ.out _ _ H4.out.2 (fun _ => ?_)
            clear hKQ KQ
            refine' take_at (i := 8) (d := 46) (v := _) rfl rfl (by kernel_rfl) (by kernel_rfl) (by kernel_rfl) (fun _ _ _ h => h) (Or.inl ⟨by rfl, ?h8⟩) (H4.out.2) ?_
            case h8 =>
              intro w hSw
              go_simp
              with_reducible rfl
            simp only [List.setIfInBounds_toArray, List.set_cons_zero, List.set_cons_succ]
            refine' take_at (i := 9) (d := 47) (v := _) rfl rfl (by kernel_rfl) (by kernel_rfl) (by kernel_rfl) (fun _ _ _ h => h) (Or.inl ⟨by rfl, ?h9⟩) (H4.out.2) ?_
            case h9 =>
              intro w hSw
              go_simp
              with_reducible rfl
            simp only [List.setIfInBounds_toArray, List.set_cons_zero, List.set_cons_succ]
            refine' take_at (i := 10) (d := 4) (v := _) rfl rfl (by kernel_rfl) (by kernel_rfl) (by kernel_rfl) (fun _ _ _ h => h) (Or.inl ⟨by rfl, ?h10⟩) (H4.out.2) ?_
            case h10 =>
              intro w hSw
              go_simp
              with_reducible rfl
            simp only [List.setIfInBounds_toArray, List.set_cons_zero, List.set_cons_succ]
            refine' take_at (i := 11) (d := 5) (v := _) rfl rfl (by kernel_rfl) (by kernel_rfl) (by kernel_rfl) (fun _ _ _ h => h) (Or.inl ⟨by rfl, ?h11⟩) (H4.out.2) ?_
            case h11 =>
              intro w hSw
              go_simp
              with_reducible rfl
            simp only [List.setIfInBounds_toArray, List.set_cons_zero, List.set_cons_succ]
            refine wpAnyH_done (by kernel_rfl) ?_ _
            go_wp2
            go_ret2
            rw [HE.out]
            exact ⟨rfl, H4.out.1⟩
          | some x =>
            obtain rfl := hy x hx
            have HE : Hid (R = (x, 0)) := HRR.out.1 x hx
            clear hx hy hn
            simp only []
            refine hKQ.out _ _ H4.out.2 (fun _ => ?_)
            clear hKQ KQ
            refine' take_at (i := 8) (d := 46) (v := _) rfl rfl (by kernel_rfl) (by kernel_rfl) (by kernel_rfl) (fun _ _ _ h => h) (Or.inl ⟨by rfl, ?h8⟩) (H4.out.2) ?_
            case h8 =>
              intro w hSw
              go_simp
              with_reducible rfl
            simp only [List.setIfInBounds_toArray, List.set_cons_zero, List.set_cons_succ]
            refine' take_at (i := 9) (d := 47) (v := _) rfl rfl (by kernel_rfl) (by kernel_rfl) (by kernel_rfl) (fun _ _ _ h => h) (Or.inl ⟨by rfl, ?h9⟩) (H4.out.2) ?_
            case h9 =>
              intro w hSw
              go_simp
              with_reducible rfl
            simp only [List.setIfInBounds_toArray, List.set_cons_zero, List.set_cons_succ]
            refine' take_at (i := 10) (d := 4) (v := _) rfl rfl (by kernel_rfl) (by kernel_rfl) (by kernel_rfl) (fun _ _ _ h => h) (Or.inl ⟨by rfl, ?h10⟩) (H4.out.2) ?_
            case h10 =>
              intro w hSw
              go_simp
              with_reducible rfl
            simp only [List.setIfInBounds_toArray, List.set_cons_zero, List.set_cons_succ]
            refine' take_at (i := 11) (d := 5) (v := _) rfl rfl (by kernel_rfl) (by kernel_rfl) (by kernel_rfl) (fun _ _ _ h => h) (Or.inl ⟨by rfl, ?h11⟩) (H4.out.2) ?_
            case h11 =>
              intro w hSw
              go_simp
              with_reducible rfl
            simp only [List.setIfInBounds_toArray, List.set_cons_zero, List.set_cons_succ]
            refine wpAnyH_done (by kernel_rfl) ?_ _
            go_wp2
            go_ret2
            rw [HE.out]
            exact ⟨rfl, H4.out.1⟩
        · rw [if_neg h2] at hand
          have HRR : Hid (R = (o.path, 0)) := by
            have e : R = (o.path, 0) := by rw [HR.out]; unfold Tq.placeT; rw [hu]; simp only []; rw [hf]; simp only []; rw [if_neg (by simp [ho]), if_neg h2]
            exact e
          clear hu hf he0 ho h2
          go_wp2_with fail
          refine (sclone_any10 o.path _ (by have := good_len HS.out.2; omega)).mono ?_
          rintro e w4 ⟨rfl, hb⟩
          have H4 : Hid (Below w.heap.size w w4) := H3.out.2.2.2.trans (hb.mono H3.out.2.2.2.size)
          clear hb c1 c4 hand
          go_wp2
          go_ret2
          rw [HRR.out]
          exact ⟨rfl, H4.out⟩
      · have he0 : decide (mm.owner ≠ 0) = true := by simp [ho]
        rw [he0]
        have HRR : Hid (R = (⟨#[]⟩, 8)) := by
          have e : R = (⟨#[]⟩, 8) := by rw [HR.out]; unfold Tq.placeT; rw [hu]; simp only []; rw [hf]; simp only []; rw [if_pos ho]
          exact e
        clear hu hf he0 ho hand
        go_wp2
        go_ret2
        rw [HRR.out]
        exact ⟨rfl, H3.out.2.2.2⟩
end
end Go.Proofs.YtpidafpaffpnaaaGreatDoor
