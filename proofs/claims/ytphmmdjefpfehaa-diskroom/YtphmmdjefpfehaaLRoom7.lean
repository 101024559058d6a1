/- What DiskRoom answers. -/
import Derived.Test.YtphmmdjefpfehaaLAwake7
import Derived.Test.YtphmmdjefpfehaaTakeAt
import Derived.Deep.DeepCutAuto
namespace Go.Proofs.Ytphmmdjefpfehaa
open Go.RowKit

theorem and_one : ∀ k : Nat, k < 32 → bits .and .i64 (k : Int) 1 = ((k % 2 : Nat) : Int) := by decide

/-- What a DiskRoom has under way. -/
structure RoomS (LD : Rep) (W w : World) (q R k : Nat) (st : Dq.St) (F : Nat → Prop) : Prop where
  m : Mine LD W w q st F
  room : st.room = R
  off : st.off = false
  lives : st.lives = 1
  few : st.fs.length ≤ k

set_option maxRecDepth 20000 in
set_option maxHeartbeats 4000000 in
theorem room_any7 {LD : Rep} (S : Specs7 LD) (room : Int) (vl : Value) (ls : List (List UInt8)) (W : World) (hl : Bl W vl ls) (hll : ls.length ≤ maxLen) (hlx : ∀ x ∈ ls, x.length ≤ maxLen) :
    Calls Try.prog 6 #[.int .i64 room, vl] W fun e w' => e = .returned (.bool true) ∧ Below W.heap.size W w' := by
  have HS : Hid (Specs7 LD) := S
  have HL : Hid (Bl W vl ls ∧ ∀ x ∈ ls, x.length ≤ maxLen) := ⟨hl, hlx⟩
  obtain ⟨al, n, cl, rfl, hn, hX⟩ := hl
  have HN : Hid (n = ls.length) := hn
  have hn1 : n ≤ 9223372036854775807 := by unfold maxLen at hll; omega
  clear S hX hn hll hlx
  go_enter Try.func6, Try.ntmps6
  go_wp2_with fail
  refine (awake_any7 HS.out W).mono ?_
  rintro e w0 ⟨rfl, hb⟩
  have B0 : Hid (Below W.heap.size W w0) := hb
  clear hb
  by_cases h1 : room < 64
  · go_wp2
    go_ret
    exact ⟨rfl, B0.out⟩
  by_cases h2 : 500 < room
  · go_wp2
    go_ret
    exact ⟨rfl, B0.out⟩
  by_cases h3 : 30 < n
  · have h3' : (30 : Int) < (n : Int) := by omega
    go_wp2
    go_ret
    exact ⟨rfl, B0.out⟩
  have h3' : ¬ (30 : Int) < (n : Int) := by omega
  obtain ⟨R, rfl⟩ : ∃ z : Nat, room = (z : Int) := ⟨room.toNat, by omega⟩
  go_wp2_with fail
  refine (mine_new HS.out B0.out R (by omega)).mono ?_
  rintro e w1 ⟨q, F1, rfl, hM⟩
  have M1 : Hid (RoomS LD W w1 q R 0 ⟨R, [], false, 1⟩ F1) := ⟨hM, rfl, rfl, rfl, Nat.le_refl _⟩
  clear hM
  go_wp2
  go_loopw [7, 8] (fun sz i wr => ∃ (k m : Nat) (st : Dq.St) (F : Nat → Prop), k ≤ n ∧ i = .int .i64 (k : Int) ∧ sz = .int .i64 (m : Int) ∧ m = Dq.size st.fs ∧ m ≤ R ∧ RoomS LD W wr q R k st F) (fun _ i _ => ((n : Int) - intOf i).toNat)
  case atStart => exact ⟨0, 0, ⟨R, [], false, 1⟩, F1, Nat.zero_le _, rfl, rfl, rfl, Nat.zero_le _, M1.out⟩
  case round =>
    obtain ⟨k, m, st, F, hk, rfl, rfl, hm, hmR, hrs⟩ := hrel
    have HR : Hid (RoomS LD W wr q R k st F) := hrs
    have HM : Hid (m = Dq.size st.fs) := hm
    clear hrs hm
    by_cases hlt : k < n
    · have hlt' : (k : Int) < (n : Int) := by omega
      have hkl : k < ls.length := by rw [← HN.out]; exact hlt
      obtain ⟨av, kv, cv, hv, hkv, hcs⟩ := HL.out.1
      obtain ⟨g, o, vx, hal, hcell, hbx⟩ := hcs k ls[k] (List.getElem?_eq_getElem hkl)
      simp only [Value.slice.injEq] at hv
      obtain ⟨rfl, hq2, rfl⟩ := hv
      subst hal
      have hxl := HL.out.2 _ (List.getElem_mem hkl)
      generalize ls[k] = x at *
      clear hcs hkv hkl hq2
      have HBX : Hid (Bs W vx x) := hbx
      obtain ⟨ax, nx, cx, rfl, hnx, hY⟩ := hbx
      have HNX : Hid (nx = x.length) := hnx
      have hnx1 : nx ≤ 9223372036854775807 := by unfold maxLen at hxl; omega
      clear hY hnx hxl
      have HCL : Hid (∀ w', Below W.heap.size W w' → w'.cell? ⟨g, o + k, none⟩ = some (.slice ax nx cx)) := fun w' hb => Below.kept hb hcell
      clear hcell
      have hc1 := HCL.out wr HR.out.m.below
      by_cases h300 : 300 < nx
      · have h300' : (300 : Int) < (nx : Int) := by omega
        go_wp2
        go_ret
        exact ⟨rfl, HR.out.m.below⟩
      have h300' : ¬ (300 : Int) < (nx : Int) := by omega
      have hk0 : (0 : Int) ≤ (k : Int) := by omega
      have hand := and_one k (by omega)
      obtain ⟨p, hp⟩ : ∃ p, p = k % 2 := ⟨_, rfl⟩
      rw [← hp] at hand
      obtain ⟨nm, hnm⟩ : ∃ z : ByteArray, z = if p = 0 then ⟨#[97]⟩ else ⟨#[98]⟩ := ⟨_, rfl⟩
      have HNM : Hid (Dq.may nm = true) := by
        have h : Dq.may nm = true := by rw [hnm]; split <;> decide
        exact h
      have hp2 : p < 2 := by omega
      have HSX : Hid (Below W.heap.size W wr.drew) := HR.out.m.below.drew
      have HRX : Hid (RoomS LD W wr.drew q R k st F) := ⟨HR.out.m.later HS.out (Below.refl _ _).drew, HR.out.room, HR.out.off, HR.out.lives, HR.out.few⟩
      have HCN : Hid (∀ wY : World, (wY.alloc (.cells #[.string ⟨#[97]⟩, .string ⟨#[98]⟩] 9)).cell? ⟨wY.heap.size, p, none⟩ = some (.string nm)) := fun wY => by
        rcases (show p = 0 ∨ p = 1 by omega) with h | h
        · rw [h] at hnm ⊢
          rw [hnm]
          exact cell?_alloc_at _ _ _ _ _ _ rfl
        · rw [h] at hnm ⊢
          rw [hnm]
          exact cell?_alloc_at _ _ _ _ _ _ rfl
      clear hp hnm
      go_wp2_with fail
      clear hc1
      refine wp_region_held_drew (S := fun w' => Below W.heap.size W w') (by kernel_rfl) HSX.out (fun _ => ?_)
      generalize wr.drew = wX at *
      refine' take_at (i := 0) (d := 40) (v := _) rfl rfl (by kernel_rfl) (by kernel_rfl) (by kernel_rfl) (fun _ _ _ h => h) (Or.inl ⟨by rfl, ?h0⟩) HSX.out ?_
      case h0 => intro w hSw; go_simp; with_reducible rfl
      simp only [List.setIfInBounds_toArray, List.set_cons_zero, List.set_cons_succ]
      refine' take_at (i := 2) (d := 42) (v := _) rfl rfl (by kernel_rfl) (by kernel_rfl) (by kernel_rfl) (fun _ _ _ h => h) (Or.inl ⟨by rfl, ?h2⟩) HSX.out ?_
      case h2 => intro w hSw; go_simp; with_reducible rfl
      simp only [List.setIfInBounds_toArray, List.set_cons_zero, List.set_cons_succ]
      refine' take_at (i := 3) (d := 43) (v := _) rfl rfl (by kernel_rfl) (by kernel_rfl) (by kernel_rfl) (fun _ _ _ h => h) (Or.inl ⟨by rfl, ?h3⟩) HSX.out ?_
      case h3 => intro w hSw; go_simp; with_reducible rfl
      simp only [List.setIfInBounds_toArray, List.set_cons_zero, List.set_cons_succ]
      refine' take_at (i := 6) (d := 46) (v := _) rfl rfl (by kernel_rfl) (by kernel_rfl) (by kernel_rfl) (fun _ _ _ h => h) (Or.inl ⟨by rfl, ?h6⟩) HSX.out ?_
      case h6 => intro w hSw; go_simp; with_reducible rfl
      simp only [List.setIfInBounds_toArray, List.set_cons_zero, List.set_cons_succ]
      refine' take_at (i := 7) (d := 47) (v := _) rfl rfl (by kernel_rfl) (by kernel_rfl) (by kernel_rfl) (fun _ _ _ h => h) (Or.inl ⟨by rfl, ?h7⟩) HSX.out ?_
      case h7 => intro w hSw; go_simp; with_reducible rfl
      simp only [List.setIfInBounds_toArray, List.set_cons_zero, List.set_cons_succ]
      refine' take_at (i := 8) (d := 48) (v := _) rfl rfl (by kernel_rfl) (by kernel_rfl) (by kernel_rfl) (fun _ _ _ h => h) (Or.inl ⟨by rfl, ?h8⟩) HSX.out ?_
      case h8 => intro w hSw; go_simp; with_reducible rfl
      simp only [List.setIfInBounds_toArray, List.set_cons_zero, List.set_cons_succ]
      refine' take_at (i := 9) (d := 49) (v := _) rfl rfl (by kernel_rfl) (by kernel_rfl) (by kernel_rfl) (fun _ _ _ h => h) (Or.inl ⟨by rfl, ?h9⟩) HSX.out ?_
      case h9 => intro w hSw; have hc1 := HCL.out w hSw; go_simp; with_reducible rfl
      simp only [List.setIfInBounds_toArray, List.set_cons_zero, List.set_cons_succ]
      refine wpAnyH_ready (rs := [1]) (by kernel_rfl) (by simp) ?_
      refine AllReadyH.cons (o := _) rfl (fun K hK => ?_) AllReadyH.nil
      go_simp
      refine hK.out _ _ (HSX.out.alloc HSX.out.size _) (fun _ => ?_)
      clear hK K
      have HAL : Hid (Below wX.heap.size wX (wX.alloc (.cells #[.string ⟨#[97]⟩, .string ⟨#[98]⟩] 9))) := (Below.refl _ wX).alloc (Nat.le_refl _) _
      have HCC : Hid ((wX.alloc (.cells #[.string ⟨#[97]⟩, .string ⟨#[98]⟩] 9)).cell? ⟨wX.heap.size, p, none⟩ = some (.string nm)) := HCN.out wX
      obtain ⟨qa, hqa⟩ : ∃ z, z = wX.heap.size := ⟨_, rfl⟩
      rw [← hqa] at HCC ⊢
      have HRA : Hid (RoomS LD W (wX.alloc (.cells #[.string ⟨#[97]⟩, .string ⟨#[98]⟩] 9)) q R k st F) := ⟨HRX.out.m.later HS.out HAL.out, HRX.out.room, HRX.out.off, HRX.out.lives, HRX.out.few⟩
      clear hqa HAL
      generalize wX.alloc (.cells #[.string ⟨#[97]⟩, .string ⟨#[98]⟩] 9) = wA at *
      have HSA : Hid (Below W.heap.size W wA) := HRA.out.m.below
      refine wpAnyH_ready (rs := [4]) (by kernel_rfl) (by simp) ?_
      refine AllReadyH.cons (o := _) rfl (fun K hK => ?_) AllReadyH.nil
      have hp3 : ((p : Nat) : Int) < 2 := by omega
      have hp4 : (0 : Int) ≤ ((p : Nat) : Int) := by omega
      go_simp
      refine hK.out _ _ HSA.out (fun _ => ?_)
      clear hK K
      refine wpAnyH_ready (rs := [5]) (by kernel_rfl) (by simp) ?_
      refine AllReadyH.cons (o := _) rfl (fun K hK => ?_) AllReadyH.nil
      have hc2 := HCC.out
      go_simp
      clear hc2
      refine hK.out _ _ HSA.out (fun _ => ?_)
      clear hK K
      refine wpAnyH_ready (rs := [10]) (by kernel_rfl) (by simp) ?_
      refine AllReadyH.cons (o := _) rfl (fun K hK => ?_) AllReadyH.nil
      go_simp
      obtain ⟨e, st', hst⟩ : ∃ e st', Dq.append st nm x = (e, st') := ⟨_, _, rfl⟩
      refine (Mine.append HS.out HRA.out.m nm _ x (HRA.out.m.arg HBX.out).1 (by rw [← HNX.out]; omega) (HRA.out.m.arg HBX.out).2 (by have := HRA.out.few; omega) e st' hst).mono ?_
      rintro ed wB ⟨F', rfl, hM, hmv⟩
      have hroom := Dq.append_room HRA.out.m.fine.1 nm x HRA.out.off HNM.out
      rw [hst, HRA.out.room, ← HM.out, ← HNX.out] at hroom
      simp only [] at hroom
      obtain ⟨r1, r2, r3, r4, r5, r6⟩ := hroom
      have HRB : Hid (RoomS LD W wB q R (k + 1) st' F') := ⟨hM, r4, r3, by rw [r5, HRA.out.lives], by have := HRA.out.few; omega⟩
      have HE : Hid (e = if R < m + nx then 9 else 0) := r1
      have HZ : Hid (Dq.size st'.fs = if R < m + nx then m else m + nx) := r2
      clear hM hmv r1 r2 r3 r4 r5 r6 hst
      refine hK.out _ _ HRB.out.m.below (fun _ => ?_)
      clear hK K
      refine wpAnyH_ready (rs := [11]) (by kernel_rfl) (by simp) ?_
      refine AllReadyH.cons (o := _) rfl (fun K hK => ?_) AllReadyH.nil
      go_simp
      refine hK.out _ _ HRB.out.m.below (fun _ => ?_)
      clear hK K
      refine wpAnyH_done (by kernel_rfl) ?_ _
      have hc3 := HCL.out wB HRB.out.m.below
      have hsub : IntKind.wrap .i64 ((R : Int) - (m : Int)) = (R : Int) - (m : Int) := by rw [IntKind.wrap_i64]; omega
      by_cases hbig : R < m + nx
      · obtain rfl : e = 9 := by rw [HE.out, if_pos hbig]
        have HZ2 : Hid (m = Dq.sizeOf st') := by
          have h : m = Dq.sizeOf st' := by
            unfold Dq.sizeOf
            rw [HRB.out.off, HZ.out, if_pos hbig]
            rfl
          exact h
        have hbig' : (R : Int) - (m : Int) < (nx : Int) := by omega
        go_wp2_with fail
        refine (Mine.size HS.out HRB.out.m m HZ2.out.symm).mono ?_
        rintro ed wC ⟨F2, rfl, hM, hmv⟩
        have HRC : Hid (RoomS LD W wC q R (k + 1) st' F2) := ⟨hM, HRB.out.room, HRB.out.off, HRB.out.lives, HRB.out.few⟩
        have HZ3 : Hid (m = Dq.size st'.fs) := by
          have h : m = Dq.size st'.fs := by rw [HZ.out, if_pos hbig]
          exact h
        clear hM hmv hc3
        go_wp2
        go_roundw
        case rel => exact ⟨k + 1, m, st', F2, by omega, by go_num, rfl, HZ3.out, hmR, HRC.out⟩
        case measure => simp [intOf]; omega
      · obtain rfl : e = 0 := by rw [HE.out, if_neg hbig]
        have HZ2 : Hid (m + nx = Dq.sizeOf st') := by
          have h : m + nx = Dq.sizeOf st' := by
            unfold Dq.sizeOf
            rw [HRB.out.off, HZ.out, if_neg hbig]
            rfl
          exact h
        have hbig' : ¬ (R : Int) - (m : Int) < (nx : Int) := by omega
        go_wp2_with fail
        refine (Mine.size HS.out HRB.out.m (m + nx) HZ2.out.symm).mono ?_
        rintro ed wC ⟨F2, rfl, hM, hmv⟩
        have HRC : Hid (RoomS LD W wC q R (k + 1) st' F2) := ⟨hM, HRB.out.room, HRB.out.off, HRB.out.lives, HRB.out.few⟩
        have HZ3 : Hid (m + nx = Dq.size st'.fs) := by
          have h : m + nx = Dq.size st'.fs := by rw [HZ.out, if_neg hbig]
          exact h
        clear hM hmv hc3
        go_wp2
        go_roundw
        case rel => exact ⟨k + 1, m + nx, st', F2, by omega, by go_num, by go_num, HZ3.out, by omega, HRC.out⟩
        case measure => simp [intOf]; omega
    · have hlt' : ¬ (k : Int) < (n : Int) := by omega
      have hmR' : (m : Int) ≤ (R : Int) := by omega
      go_wp2
      go_ret
      exact ⟨rfl, HR.out.m.below⟩
end Go.Proofs.Ytphmmdjefpfehaa
