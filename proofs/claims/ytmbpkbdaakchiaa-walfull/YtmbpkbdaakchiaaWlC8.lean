/- What the landed log answers to Add: its walk. -/
import Derived.Test.YtmbpkbdaakchiaaWlB8
namespace Go.Proofs.Ytmbpkbdaakchiaa
open Go.RowKit

/-- 'append(l, x)' of rows of bytes, within a drawn region. -/
theorem wp_rows8 {o : Oper} {a : Act} {K : Act → World → Prop} {Q : Exit → Act → World → Prop} (s x : Operand)
    (ho : o.op = .call { callee := .builtin .append, args := #[s, x], argTypes := #[39, 39] })
    (B : Nat) (v u : Value) (n : Nat) (us : List Value) (q : Nat) (w : World) (hs : a.eval s = v) (hx : a.eval x = .slice (some ⟨q, 0, none⟩) 1 1) (hown : w.ownsRow B 31 1 v n us) (hB : B ≤ w.heap.size) (hu : w.cell? ⟨q, 0, none⟩ = some u) (h1 : u.oneCell' = true) (hN : n ≤ 1000000)
    (h : ∀ v' w', w'.ownsRow B 31 1 v' (n + 1) (us ++ [u]) → w.grownBy w' v.ownBlock → (v'.ownBlock = v.ownBlock ∨ v'.ownBlock = some w.heap.size) → K (a.put o.dst v') w') : o.wp Try.prog a w K Q := by
  obtain ⟨i0, hi, hz0, hz1, hz2⟩ := info_parts infoBytes
  obtain ⟨v', w', hr, h2, h3, h4, h5⟩ := run_append_own_at (P := Try.prog) w B 39 o.type 31 i0 (.slice none 0 0) 1 24 Try.underlying39 hi hz0 hz1 hz2 rfl (by decide) v n us hown ⟨q, 0, none⟩ 1 1 [u] rfl (fun j y hj => by
    match j, hj with
    | 0, hj => simp at hj; subst hj; simpa [Addr.add] using hu
    | (j + 1), hj => simp at hj) (fun y hy => by simp at hy; subst hy; exact h1) (by unfold maxLen; omega) (by omega) hB
  unfold Oper.wp execOp
  simp only [ho, resolve, invoke, builtin, Sem.run_bind, Sem.run_pure, Result.andThen_ok, List.map_toArray, List.map_cons, List.map_nil, hs, hx, hr]
  exact h v' w' h2 h3 h5

theorem frames_small {g : Wq.Lg} (h : FineG g) : (Fr.frames g.recs).length ≤ 1000000000 := by
  have h1 := Fr.frames_max g.recs 20000 h.recs
  have h2 := h.len
  have h3 : g.recs.length * (12 + 20000) ≤ 10000 * (12 + 20000) := Nat.mul_le_mul_right _ h2
  omega

set_option maxRecDepth 20000 in
set_option maxHeartbeats 8000000 in
theorem addW_any (ql qd : Nat) (g : Wq.Lg) (st : Dq.St) (F G : Nat → Prop) (v : Value) (us : List Value) (vr : Value) (r : List UInt8) (w : World) (hd : DkD w qd st F) (hg : WlU w ql qd g G v us ((Fr.frames g.recs).length : Int)) (ha : ∀ k, F k → ¬ G k) (hf : Fine st) (hoff : st.off = false) (hgl : g.recs.length ≤ 9999) (hb : Bs w vr r) (hr : r.length ≤ 100000) (hba : Apart F vr r) :
    Calls Try.prog 11 #[dptr ql, vr] w fun e w' => e = .returned (.int .i64 (Wq.add g st r).1) ∧ Post8 DkD WlD w ql qd F G (Wq.add g st r).2.1 (Wq.add g st r).2.2 w' := by
  have HD : Hid (DkD w qd st F ∧ WlU w ql qd g G v us ((Fr.frames g.recs).length : Int) ∧ (∀ k, F k → ¬ G k) ∧ Fine st) := ⟨hd, hg, ha, hf⟩
  have HO : Hid (Calls Try.prog 27 #[dptr ql] w fun e w' => e = .returned (.bool (dn g st)) ∧ ∃ n, w' = w.drewN n) := isDone_any ql qd g st F G v us _ w hd hg
  have HV : Hid (Bs w vr r ∧ r.length ≤ 100000 ∧ Apart F vr r) := ⟨hb, hr, hba⟩
  rw [dn_on hoff] at HO
  obtain ⟨av, cv, rfl, _⟩ := row_slice hg.own
  obtain ⟨m, hm⟩ : ∃ m, m = g.recs.length := ⟨_, rfl⟩
  have HML : Hid (m = g.recs.length ∧ m ≤ 9999) := ⟨hm, by omega⟩
  rw [← hm] at HD
  obtain ⟨ar, nr, cr, rfl, hnr, hX⟩ := hb
  clear hd hg ha hf hX hnr hr hba hm hoff hgl
  cases ho : Wq.off g st with
  | true =>
    have HX : Hid (Wq.add g st r = (10, { g with done := true }, st) ∧ Wq.off g st = true) := ⟨Wq.add_dead ho r, ho⟩
    rw [HX.out.1]
    rw [ho] at HO
    clear ho
    go_enter Try.func11, Try.ntmps11
    go_wp2_with fail
    refine HO.out.mono ?_
    rintro e w1 ⟨rfl, n9, hw1⟩
    have HB : Hid (Below w.heap.size w w1) := by rw [hw1]; exact below_drewN (Below.refl _ _) _
    have HD1 : Hid (DkD w1 qd st F ∧ WlU w1 ql qd g G (.slice av m cv) us ((Fr.frames g.recs).length : Int)) := ⟨HD.out.1.below HB.out, HD.out.2.1.below HB.out⟩
    clear hw1
    go_wp2
    go_ret
    exact ⟨rfl, (post_dead HD1.out.1 ⟨_, us, HD1.out.2⟩ HD.out.2.2.1 HX.out.2).before (Moved.of_below _ HB.out)⟩
  | false =>
    rw [ho] at HO
    have HOF : Hid (Wq.off g st = false) := ho
    clear ho
    by_cases hlong : 20000 < r.length
    · have HX : Hid (Wq.add g st r = (2, g, st) ∧ 20000 < r.length) := ⟨Wq.add_long HOF.out hlong, hlong⟩
      rw [HX.out.1]
      clear hlong
      go_enter Try.func11, Try.ntmps11
      go_wp2_with fail
      refine HO.out.mono ?_
      rintro e w1 ⟨rfl, n9, hw1⟩
      have HB : Hid (Below w.heap.size w w1) := by rw [hw1]; exact below_drewN (Below.refl _ _) _
      have HD1 : Hid (DkD w1 qd st F ∧ WlU w1 ql qd g G (.slice av m cv) us ((Fr.frames g.recs).length : Int)) := ⟨HD.out.1.below HB.out, HD.out.2.1.below HB.out⟩
      clear hw1
      go_wp2_with fail
      refine (long_any (.slice none 0 0) (.slice ar nr cr) [] r w1 (Bs.nil _) (HV.out.1.below HB.out) HX.out.2 (by have := HV.out.2.1; unfold maxLen; omega)).mono ?_
      rintro e w2 ⟨vf, rfl, hb2⟩
      have HB2 : Hid (Below w.heap.size w w2) := HB.out.trans (hb2.mono HB.out.size)
      clear hb2
      go_wp2
      go_ret
      exact ⟨rfl, post_of (HD.out.1.below HB2.out) ⟨_, us, HD.out.2.1.below HB2.out⟩ HD.out.2.2.1 (Moved.of_below _ HB2.out)⟩

    have HLN : Hid (r.length ≤ 20000) := Nat.not_lt.1 hlong
    clear hlong
    by_cases hz : (Dq.append st Wq.logN (Fr.frame r)).1 = 0
    · have HX : Hid (Wq.add g st r = (0, { g with recs := g.recs ++ [r] }, (Dq.append st Wq.logN (Fr.frame r)).2) ∧ (Dq.append st Wq.logN (Fr.frame r)).1 = 0) := by
        refine ⟨?_, hz⟩
        unfold Wq.add
        rw [HOF.out, if_neg (by simp), if_neg (by have := HLN.out; omega), if_pos hz]
      rw [HX.out.1]
      clear hz
      go_enter Try.func11, Try.ntmps11
      go_wp2_with fail
      refine HO.out.mono ?_
      rintro e w1 ⟨rfl, n9, hw1⟩
      have HB : Hid (Below w.heap.size w w1) := by rw [hw1]; exact below_drewN (Below.refl _ _) _
      have HD1 : Hid (DkD w1 qd st F ∧ WlU w1 ql qd g G (.slice av m cv) us ((Fr.frames g.recs).length : Int)) := ⟨HD.out.1.below HB.out, HD.out.2.1.below HB.out⟩
      clear hw1
      go_wp2_with fail
      refine (put_any (.slice none 0 0) (.slice ar nr cr) [] r w1 (Bs.nil _) (HV.out.1.below HB.out) (by decide) HLN.out).mono ?_
      rintro e w2 ⟨vf, rfl, hown, hb2⟩
      rw [List.nil_append, List.length_nil, Nat.zero_add] at hown
      have HB2 : Hid (Below w.heap.size w w2) := HB.out.trans (hb2.mono HB.out.size)
      have HVF : Hid (w2.ownsRow w1.heap.size 5 1 vf (12 + r.length) (bc (Fr.frame r))) := hown
      have HVA : Hid (Apart F vf (Fr.frame r)) := fun _ k e hF => by
        have h1 := (HVF.out.lt k e).1
        have h2 := HD1.out.1.lt hF
        omega
      obtain ⟨af, cf, rfl, _⟩ := row_slice hown
      clear hown hb2
      have l0 : w2.cell? ⟨ql, 0, none⟩ = some (dptr qd) := (HD.out.2.1.below HB2.out).blk.cell 0
      go_wp2_with fail
      refine (append_any7 qd st F Wq.logN (.slice af (12 + r.length) cf) (Fr.frame r) w2 (HD.out.1.below HB2.out) HD.out.2.2.2 (Bs.own HVF.out) (by rw [Fr.frame_len]; have := HLN.out; omega) HVA.out).mono ?_
      rintro e wZ ⟨F2, rfl, hp1, hp2⟩
      have HM : Hid (Moved w wZ F F2) := (Moved.of_below F HB2.out).trans hp2
      have hoth := HD.out.2.1.other HM.out HD.out.2.2.1
      have HZ : Hid (DkD wZ qd (Dq.append st Wq.logN (Fr.frame r)).2 F2 ∧ WlU wZ ql qd g G (.slice av m cv) us ((Fr.frames g.recs).length : Int) ∧ (∀ k, F2 k → ¬ G k) ∧ Bs wZ (.slice ar nr cr) r) := ⟨hp1, hoth.1, hoth.2, HV.out.1.moved HM.out HV.out.2.2⟩
      clear hp1 hp2 hoth l0
      rw [HX.out.2]
      have HSB0 : Hid (∀ w', Below wZ.heap.size wZ w' → w'.cell? ⟨ql, 4, none⟩ = some (.slice av m cv)) := fun w' hb => (HZ.out.2.1.below hb).blk.cell 4
      go_wp2_with fail
      refine wp_region_T (fun w' => w'.cell? ⟨ql, 4, none⟩ = some (.slice av m cv)) 11 (by kernel_rfl) ?_
      have HMX : Hid (Moved w wZ.drew F F2) := HM.out.trans (Moved.of_below F2 (Below.refl _ _).drew)
      have HZX : Hid (DkD wZ.drew qd (Dq.append st Wq.logN (Fr.frame r)).2 F2 ∧ WlU wZ.drew ql qd g G (.slice av m cv) us ((Fr.frames g.recs).length : Int) ∧ (∀ k, F2 k → ¬ G k) ∧ Bs wZ.drew (.slice ar nr cr) r) := ⟨HZ.out.1.below (Below.refl _ _).drew, HZ.out.2.1.below (Below.refl _ _).drew, HZ.out.2.2.1, HZ.out.2.2.2.below (Below.refl _ _).drew⟩
      clear HZ HM HSB0
      generalize wZ.drew = wD at *
      have HSB : Hid (∀ w', Below wD.heap.size wD w' → w'.cell? ⟨ql, 4, none⟩ = some (.slice av m cv)) := fun w' hb => (HZX.out.2.1.below hb).blk.cell 4
      have HSX : Hid (wD.cell? ⟨ql, 4, none⟩ = some (.slice av m cv)) := HSB.out _ (Below.refl _ _)
      refine' take_T (i := 0) (d := 29) (v := _) rfl rfl (by kernel_rfl) (by kernel_rfl) (by kernel_rfl) (by kernel_rfl) (by kernel_rfl) (fun _ _ _ h => h) (Or.inl ⟨by rfl, ?h0⟩) (HSX.out) ?_
      case h0 => intro w hSw; go_simp; with_reducible rfl
      simp only [List.setIfInBounds_toArray, List.set_cons_zero, List.set_cons_succ]
      refine' take_T (i := 1) (d := 30) (v := _) rfl rfl (by kernel_rfl) (by kernel_rfl) (by kernel_rfl) (by kernel_rfl) (by kernel_rfl) (fun _ _ _ h => h) (Or.inl ⟨by rfl, ?h1⟩) (HSX.out) ?_
      case h1 => intro w hSw; go_simp; with_reducible rfl
      simp only [List.setIfInBounds_toArray, List.set_cons_zero, List.set_cons_succ]
      refine' take_T (i := 2) (d := 31) (v := _) rfl rfl (by kernel_rfl) (by kernel_rfl) (by kernel_rfl) (by kernel_rfl) (by kernel_rfl) (fun _ _ _ h => h) (Or.inl ⟨by rfl, ?h2⟩) (HSX.out) ?_
      case h2 => intro w hSw; go_simp; with_reducible rfl
      simp only [List.setIfInBounds_toArray, List.set_cons_zero, List.set_cons_succ]
      refine' take_T (i := 3) (d := 32) (v := _) rfl rfl (by kernel_rfl) (by kernel_rfl) (by kernel_rfl) (by kernel_rfl) (by kernel_rfl) (fun _ _ _ h => h) (Or.inl ⟨by rfl, ?h3⟩) (HSX.out) ?_
      case h3 => intro w hSw; go_simp; with_reducible rfl
      simp only [List.setIfInBounds_toArray, List.set_cons_zero, List.set_cons_succ]
      refine' take_T (i := 4) (d := 33) (v := _) rfl rfl (by kernel_rfl) (by kernel_rfl) (by kernel_rfl) (by kernel_rfl) (by kernel_rfl) (fun _ _ _ h => h) (Or.inl ⟨by rfl, ?h4⟩) (HSX.out) ?_
      case h4 => intro w hSw; go_simp; with_reducible rfl
      simp only [List.setIfInBounds_toArray, List.set_cons_zero, List.set_cons_succ]
      refine' take_T (i := 5) (d := 34) (v := _) rfl rfl (by kernel_rfl) (by kernel_rfl) (by kernel_rfl) (by kernel_rfl) (by kernel_rfl) (fun _ _ _ h => h) (Or.inl ⟨by rfl, ?h5⟩) (HSX.out) ?_
      case h5 => intro w hSw; go_simp; with_reducible rfl
      simp only [List.setIfInBounds_toArray, List.set_cons_zero, List.set_cons_succ]
      refine wpAnyT_ready (rs := [6]) (by kernel_rfl) (by simp) ?_
      refine AllReadyT.cons (o := _) rfl (fun K hK => ?_) AllReadyT.nil
      go_simp
      refine (clone_any7 (.slice ar nr cr) r wD HZX.out.2.2.2 (by have := HLN.out; omega)).mono ?_
      rintro e wY2 ⟨u, rfl, ho, hbc⟩
      have HO2 : Hid (wY2.ownsRow wD.heap.size 5 1 u r.length (bc r)) := ho
      have HB4 : Hid (Below wD.heap.size wD wY2) := hbc
      obtain ⟨a2, c2, rfl, _⟩ := row_slice ho
      clear ho hbc
      refine hK.out _ _ (fun _ => (HSB.out _ HB4.out)) ?_
      clear hK K
      refine wpAnyT_ready (rs := [7]) (by kernel_rfl) (by simp) ?_
      refine AllReadyT.cons (o := _) rfl (fun K hK => ?_) AllReadyT.nil
      go_simp
      obtain ⟨q1, hqq⟩ : ∃ z, z = wY2.heap.size := ⟨_, rfl⟩
      rw [← hqq]
      have HB5 : Hid (Below wD.heap.size wD (wY2.alloc (.cells #[.slice a2 r.length c2] 31))) := HB4.out.alloc HB4.out.size _
      have HO5 : Hid ((wY2.alloc (.cells #[.slice a2 r.length c2] 31)).ownsRow wD.heap.size 5 1 (.slice a2 r.length c2) r.length (bc r) ∧ (wY2.alloc (.cells #[.slice a2 r.length c2] 31)).cell? ⟨q1, 0, none⟩ = some (.slice a2 r.length c2)) := ⟨HO2.out.alloc _, by rw [hqq]; simp⟩
      clear hqq
      generalize wY2.alloc (.cells #[.slice a2 r.length c2] 31) = wY3 at *
      refine hK.out _ _ (fun _ => (HSB.out _ HB5.out)) ?_
      clear hK K
      refine wpAnyT_ready (rs := [8]) (by kernel_rfl) (by simp) ?_
      refine AllReadyT.cons (o := _) rfl (fun K hK => ?_) AllReadyT.nil
      refine wp_rows8 _ _ rfl 0 (.slice av m cv) (.slice a2 r.length c2) m us q1 wY3 rfl rfl (by have h := (HZX.out.2.1.below HB5.out).own; rw [← HML.out.1] at h; exact h) (Nat.zero_le _) HO5.out.2 rfl (by have := HML.out.2; omega) ?_
      intro v4 wY4 ho hg hat
      rw [HML.out.1] at ho
      have hmore := HZX.out.2.1.more (by rw [← HML.out.1]; exact HML.out.2) HLN.out HB5.out HO5.out.1 hg ho hat
      have HMR : Hid (WlU (wY4.setCell ⟨ql, 4, none⟩ v4) ql qd { g with recs := g.recs ++ [r] } (Gl wD wY4 G) v4 (us ++ [.slice a2 r.length c2]) ((Fr.frames g.recs).length : Int) ∧ Moved wD (wY4.setCell ⟨ql, 4, none⟩ v4) G (Gl wD wY4 G)) := hmore
      have HQ4 : Hid (wY4.cell? ⟨ql, 4, none⟩ = some (.slice av m cv) ∧ wY4.frozen? ⟨ql, 4, none⟩ = false) := by
        have hW := HZX.out.2.1.below HB5.out
        have hb4 : Blk wY4 ql _ _ := hW.blk.keep (hg.block ql hW.blk.lt (fun e => hW.vne ql e.symm rfl))
        exact ⟨hb4.cell 4, hb4.free 4⟩
      obtain ⟨a4, c4, rfl, _⟩ := row_slice ho
      clear ho hg hat hmore
      go_simp
      refine hK.out _ _ (fun _ => HQ4.out.1) ?_
      clear hK K
      refine' take_T (i := 9) (d := 38) (v := _) rfl rfl (by kernel_rfl) (by kernel_rfl) (by kernel_rfl) (by kernel_rfl) (by kernel_rfl) (fun _ _ _ h => h) (Or.inl ⟨by rfl, ?h9⟩) (HQ4.out.1) ?_
      case h9 => intro w hSw; go_simp; with_reducible rfl
      simp only [List.setIfInBounds_toArray, List.set_cons_zero, List.set_cons_succ]
      refine' take_T (i := 10) (d := 39) (v := _) rfl rfl (by kernel_rfl) (by kernel_rfl) (by kernel_rfl) (by kernel_rfl) (by kernel_rfl) (fun _ _ _ h => h) (Or.inl ⟨by rfl, ?h10⟩) (HQ4.out.1) ?_
      case h10 => intro w hSw; go_simp; with_reducible rfl
      simp only [List.setIfInBounds_toArray, List.set_cons_zero, List.set_cons_succ]
      refine wpAnyT_ready (rs := [11]) (by kernel_rfl) (by simp) ?_
      refine AllReadyT.cons (o := _) rfl (fun K hK => ?_) AllReadyT.nil
      have hc := HQ4.out.1
      have hz := HQ4.out.2
      go_simp
      clear hc hz
      refine hK.out _ _ (fun h => absurd rfl h) ?_
      clear hK K
      refine wpAnyT_done (by kernel_rfl) ?_ _
      obtain ⟨sz, hsz⟩ : ∃ sz, sz = (Fr.frames g.recs).length := ⟨_, rfl⟩
      have HSZ : Hid (sz = (Fr.frames g.recs).length ∧ sz ≤ 1000000000) := ⟨hsz, by rw [hsz]; exact frames_small HD.out.2.1.fine⟩
      rw [← hsz] at HMR
      clear hsz
      obtain ⟨rn, hrn⟩ : ∃ rn, rn = r.length := ⟨_, rfl⟩
      have HRN : Hid (rn = r.length ∧ rn ≤ 20000) := ⟨hrn, by rw [hrn]; exact HLN.out⟩
      rw [← hrn]
      clear hrn
      generalize wY4.setCell ⟨ql, 4, none⟩ (.slice a4 (g.recs.length + 1) c4) = wz at *
      have l5 : wz.cell? ⟨ql, 5, none⟩ = some (.int .i64 (sz : Int)) := HMR.out.1.blk.cell 5
      have z5 := HMR.out.1.blk.free 5
      have hws : IntKind.wrap .i64 ((sz : Int) + (12 + (rn : Int))) = (sz : Int) + (12 + (rn : Int)) := by
        have h1 := HSZ.out.2
        have h2 := HRN.out.2
        rw [IntKind.wrap_i64]
        omega
      go_wp2
      go_ret
      refine ⟨rfl, ?_⟩
      have hS := HMR.out.1.setSize ((sz : Int) + (12 + (rn : Int)))
      have hmv : Moved wD (wz.setCell ⟨ql, 5, none⟩ (.int .i64 ((sz : Int) + (12 + (rn : Int))))) G (Gl wD wY4 G) := HMR.out.2.trans (moved_set (Or.inl HD.out.2.1.gq))
      have hfr : ((Fr.frames (g.recs ++ [r])).length : Int) = (sz : Int) + (12 + (rn : Int)) := by
        rw [Fr.frames_snoc, List.length_append, Fr.frame_len, ← HSZ.out.1, ← HRN.out.1]
        omega
      refine post_of (F' := F2) (G' := Gl wD wY4 G) (HZX.out.1.keep (fun k hk => hmv.block k (HZX.out.1.lt hk) (HZX.out.2.2.1 k hk))) ⟨_, _, by rw [hfr]; exact hS⟩ (fun k hF hG => ?_) ((HMX.out.both_l).trans hmv.rightL)
      rcases hmv.sub k hG with e | e
      · exact HZX.out.2.2.1 k hF e
      · have := HZX.out.1.lt hF
        omega

    · have HX : Hid (Wq.add g st r = ((Dq.append st Wq.logN (Fr.frame r)).1, { g with done := true }, (Dq.append st Wq.logN (Fr.frame r)).2) ∧ ¬ (Dq.append st Wq.logN (Fr.frame r)).1 = 0) := by
        refine ⟨?_, hz⟩
        unfold Wq.add
        rw [HOF.out, if_neg (by simp), if_neg (by have := HLN.out; omega), if_neg hz]
      rw [HX.out.1]
      clear hz
      go_enter Try.func11, Try.ntmps11
      go_wp2_with fail
      refine HO.out.mono ?_
      rintro e w1 ⟨rfl, n9, hw1⟩
      have HB : Hid (Below w.heap.size w w1) := by rw [hw1]; exact below_drewN (Below.refl _ _) _
      have HD1 : Hid (DkD w1 qd st F ∧ WlU w1 ql qd g G (.slice av m cv) us ((Fr.frames g.recs).length : Int)) := ⟨HD.out.1.below HB.out, HD.out.2.1.below HB.out⟩
      clear hw1
      go_wp2_with fail
      refine (put_any (.slice none 0 0) (.slice ar nr cr) [] r w1 (Bs.nil _) (HV.out.1.below HB.out) (by decide) HLN.out).mono ?_
      rintro e w2 ⟨vf, rfl, hown, hb2⟩
      rw [List.nil_append, List.length_nil, Nat.zero_add] at hown
      have HB2 : Hid (Below w.heap.size w w2) := HB.out.trans (hb2.mono HB.out.size)
      have HVF : Hid (w2.ownsRow w1.heap.size 5 1 vf (12 + r.length) (bc (Fr.frame r))) := hown
      have HVA : Hid (Apart F vf (Fr.frame r)) := fun _ k e hF => by
        have h1 := (HVF.out.lt k e).1
        have h2 := HD1.out.1.lt hF
        omega
      obtain ⟨af, cf, rfl, _⟩ := row_slice hown
      clear hown hb2
      have l0 : w2.cell? ⟨ql, 0, none⟩ = some (dptr qd) := (HD.out.2.1.below HB2.out).blk.cell 0
      go_wp2_with fail
      refine (append_any7 qd st F Wq.logN (.slice af (12 + r.length) cf) (Fr.frame r) w2 (HD.out.1.below HB2.out) HD.out.2.2.2 (Bs.own HVF.out) (by rw [Fr.frame_len]; have := HLN.out; omega) HVA.out).mono ?_
      rintro e wZ ⟨F2, rfl, hp1, hp2⟩
      have HM : Hid (Moved w wZ F F2) := (Moved.of_below F HB2.out).trans hp2
      have hoth := HD.out.2.1.other HM.out HD.out.2.2.1
      have HZ : Hid (DkD wZ qd (Dq.append st Wq.logN (Fr.frame r)).2 F2 ∧ WlU wZ ql qd g G (.slice av m cv) us ((Fr.frames g.recs).length : Int) ∧ (∀ k, F2 k → ¬ G k) ∧ Bs wZ (.slice ar nr cr) r) := ⟨hp1, hoth.1, hoth.2, HV.out.1.moved HM.out HV.out.2.2⟩
      clear hp1 hp2 hoth l0
      obtain ⟨zz, hzz⟩ : ∃ zz, zz = (Dq.append st Wq.logN (Fr.frame r)).1 := ⟨_, rfl⟩
      have hz0 : ¬ zz = 0 := by rw [hzz]; exact HX.out.2
      rw [← hzz]
      have HZZ : Hid (zz = (Dq.append st Wq.logN (Fr.frame r)).1) := hzz
      clear hzz
      go_wp2_with fail
      refine (fail_any8 ql qd g G (.slice av m cv) us _ zz wZ HZ.out.2.1).mono ?_
      rintro e wE ⟨rfl, hwE⟩
      have HP : Hid (Post8 DkD WlD w ql qd F G { g with done := true } (Dq.append st Wq.logN (Fr.frame r)).2 wE) := by
        rw [hwE]
        exact (post_done HZ.out.1 HZ.out.2.1 HZ.out.2.2.1).before HM.out.both_l
      clear hwE
      go_wp2
      go_ret
      exact ⟨by rw [← HZZ.out]; rfl, HP.out⟩

end Go.Proofs.Ytmbpkbdaakchiaa
