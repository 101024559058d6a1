/- What reply.Get answers, of every bytes. -/
import Derived.Test.YtebmcjhhoionbaaWNext6
import Derived.Test.YtebmcjhhoionbaaWPut6
namespace Go.Proofs.Ytebmcjhhoionbaa
open Go.RowKit

set_option maxRecDepth 20000 in
set_option maxHeartbeats 1000000 in
theorem bytesEqual_any (v v' : Value) (xs ys : List UInt8) (w : World) (h : Bs w v xs) (h' : Bs w v' ys) :
    Calls Try.prog 26 #[v, v'] w (BoolP (xs = ys) w) := by
  have h1 : ∀ q, (convert 29 9 v).run Try.prog (w.drewN q) = .ok (.string ⟨xs.toArray⟩) (w.drewN q) := fun q => (h.below (below_drewN (Below.refl _ _) q)).conv
  have h2 : ∀ q, (convert 29 9 v').run Try.prog (w.drewN q) = .ok (.string ⟨ys.toArray⟩) (w.drewN q) := fun q => (h'.below (below_drewN (Below.refl _ _) q)).conv
  have k1 := h1 0
  have k2 := h2 0
  obtain ⟨X, hX⟩ : ∃ X : ByteArray, X = ⟨xs.toArray⟩ := ⟨_, rfl⟩
  obtain ⟨Y, hY⟩ : ∃ Y : ByteArray, Y = ⟨ys.toArray⟩ := ⟨_, rfl⟩
  have k1 : (convert 29 9 v).run Try.prog w = .ok (.string X) w := by rw [hX]; exact h.conv
  have k2 : (convert 29 9 v').run Try.prog w = .ok (.string Y) w := by rw [hY]; exact h'.conv
  have HXY : Hid ((X.toList == Y.toList) = true ↔ xs = ys) := by
    have e : ∀ l : List UInt8, (ByteArray.mk l.toArray).toList = l := fun l => by rw [ByteArray.toList_eq]
    rw [hX, hY, e, e]
    exact beq_iff_eq
  clear h1 h2 h h' hX hY
  go_enter Try.func26, Try.ntmps26
  go_wp2
  go_ret
  exact ⟨_, rfl, HXY.out, Below.refl _ _⟩

/-- A result more was read, and stands behind the others. -/
theorem GetR.push {w wr wx w' : World} {q0 qr qq : Nat} {r : Rp} {u u' : Value} {ps : List (X × Value)} {p : X × Value} (h : GetR w wr q0 qr qq r u ps) (hal : wr.grownBy wx none) (hg : wx.grownBy w' u.ownBlock) (hX : Xo w' (qq + 1) u' (ps ++ [p])) :
    GetR w (w'.setCell ⟨qq, 4, none⟩ u') q0 qr qq r u' (ps ++ [p]) ∧ RepV w' qq r u ∧ ∀ ys bad, Pw.Rd wr qr ys bad → Pw.Rd (w'.setCell ⟨qq, 4, none⟩ u') qr ys bad := by
  obtain ⟨k, hk, hBk⟩ := h.own.where_ h.rep.lt hal hg
  have hset := grownBy_setCell w' ⟨qq, 4, none⟩ u'
  have h0 := h.h0
  have r0 := h.r0
  have rq := h.rq
  have rep' := h.rep.grown hk (by omega)
  exact ⟨⟨(h.ans.grown hk (by omega)).grown hset (by show q0 ≠ qq; omega), rep'.set4 u', hX.kept hset (Or.inl (by show qq < qq + 1; omega)), h.h0, h.r0, h.rq, Below.reader (Below.reader h.below hk (Nat.le_refl _) (by omega)) hset (Nat.le_refl _) (by show w.heap.size ≤ qq; omega)⟩, rep', fun ys bad hr => (hr.grown hk (by omega)).grown hset rq⟩

theorem slice_of {w : World} {B n s : Nat} {t : TypeId} {v : Value} {us : List Value} (h : w.ownsRow B t s v n us) : ∃ a m c, v = .slice a m c := by
  rcases h.2 with ⟨rfl, _⟩ | ⟨g, cap, cur, rfl, _⟩
  · exact ⟨_, _, _, rfl⟩
  · exact ⟨_, _, _, rfl⟩

set_option maxRecDepth 20000 in
set_option maxHeartbeats 8000000 in
theorem get_spec6 : GetSpec6 := by
  intro v b w hb hN
  have HV : Hid (Bs w v b ∧ b.length ≤ 150000) := ⟨hb, hN⟩
  obtain ⟨av, nv, cv, rfl, hnv, hX⟩ := hb
  clear hnv hN hX
  obtain ⟨n1, y1, b1, hE⟩ : ∃ za zb zc, Pk.rI b false = (za, zb, zc) := ⟨_, _, _, rfl⟩
  have E1 : Hid (Pk.rI b false = (n1, y1, b1)) := hE
  clear hE
  obtain ⟨n2, y2, b2, hE⟩ : ∃ za zb zc, Pk.rI y1 b1 = (za, zb, zc) := ⟨_, _, _, rfl⟩
  have E2 : Hid (Pk.rI y1 b1 = (n2, y2, b2)) := hE
  clear hE
  obtain ⟨n3, y3, b3, hE⟩ : ∃ za zb zc, Pk.rI y2 b2 = (za, zb, zc) := ⟨_, _, _, rfl⟩
  have E3 : Hid (Pk.rI y2 b2 = (n3, y3, b3)) := hE
  clear hE
  obtain ⟨n4, y4, b4, hE⟩ : ∃ za zb zc, Pk.rI y3 b3 = (za, zb, zc) := ⟨_, _, _, rfl⟩
  have E4 : Hid (Pk.rI y3 b3 = (n4, y4, b4)) := hE
  clear hE
  obtain ⟨c, y5, b5, hE⟩ : ∃ (a : Nat) (b : List UInt8) (c : Bool), Pk.rC 16 y4 b4 = ((a : Int), b, c) := ⟨(Pk.rC 16 y4 b4).1.toNat, (Pk.rC 16 y4 b4).2.1, (Pk.rC 16 y4 b4).2.2, by rw [Int.toNat_of_nonneg (Pk.rC_nonneg 16 y4 b4)]⟩
  have E5 : Hid (Pk.rC 16 y4 b4 = ((c : Int), y5, b5)) := hE
  clear hE
  have HHD : Hid (Rq.Head b n1 n2 n3 n4 c y5 b5) := by
    refine ⟨by rw [E1.out], by simp only [E1.out, E2.out], by simp only [E1.out, E2.out, E3.out], by simp only [E1.out, E2.out, E3.out, E4.out], ⟨y4, b4, by simp only [E1.out, E2.out, E3.out, E4.out], by rw [E5.out], by rw [E5.out], by rw [E5.out]⟩⟩
  have hc16 : c ≤ 16 := HHD.out.few
  obtain ⟨q0, hq0⟩ : ∃ q, q = w.heap.size := ⟨_, rfl⟩
  obtain ⟨w0, hw0⟩ : ∃ W, W = w.alloc (.cells #[.int .i64 0, .int .i64 0, .int .i64 0, .int .i64 0, .slice none 0 0] 26) := ⟨_, rfl⟩
  have HA0 : Hid (RepV w0 q0 Rq.zero (.slice none 0 0)) := by rw [hw0, hq0]; exact RepV.made w Rq.zero _ _
  have HB0 : Hid (Below w.heap.size w w0) := by rw [hw0]; exact (Below.refl _ w).alloc (Nat.le_refl _) _
  have HQ0 : Hid (w.heap.size ≤ q0) := by rw [hq0]; exact Nat.le_refl _
  go_enter Try.func10, Try.ntmps10
  go_wp2_with fail
  rw [← hw0, ← hq0]
  clear hw0 hq0
  refine (Pw.read_bs _ b _ (HV.out.1.below HB0.out) (by have := HV.out.2; omega)).mono ?_
  rintro e w1 ⟨qr, rfl, hqr, hrd, hb1⟩
  have HR1 : Hid (Pw.Rd w1 qr b false) := hrd
  have HA1 : Hid (RepV w1 q0 Rq.zero (.slice none 0 0)) := HA0.out.below hb1
  have HB1 : Hid (Below w.heap.size w w1) := HB0.out.trans (hb1.mono HB0.out.size)
  have HQ1 : Hid (q0 < qr) := Nat.lt_of_lt_of_le HA0.out.lt hqr
  clear hqr hrd hb1
  go_wp2_with fail
  refine (rI64_at qr b false _ _ _ _ E1.out HR1.out).mono ?_
  rintro e w2 ⟨rfl, hr, hg⟩
  have HR2 : Hid (Pw.Rd w2 qr y1 b1) := hr
  have HA2 : Hid (RepV w2 q0 Rq.zero (.slice none 0 0)) := HA1.out.grown hg (by have := HQ1.out; omega)
  have HB2 : Hid (Below w.heap.size w w2) := Below.reader HB1.out hg (Nat.le_refl _) (by have := HQ0.out; have := HQ1.out; omega)
  clear hr hg
  go_wp2_with fail
  refine (rI64_at qr y1 b1 _ _ _ _ E2.out HR2.out).mono ?_
  rintro e w3 ⟨rfl, hr, hg⟩
  have HR3 : Hid (Pw.Rd w3 qr y2 b2) := hr
  have HA3 : Hid (RepV w3 q0 Rq.zero (.slice none 0 0)) := HA2.out.grown hg (by have := HQ1.out; omega)
  have HB3 : Hid (Below w.heap.size w w3) := Below.reader HB2.out hg (Nat.le_refl _) (by have := HQ0.out; have := HQ1.out; omega)
  clear hr hg
  go_wp2_with fail
  refine (rI64_at qr y2 b2 _ _ _ _ E3.out HR3.out).mono ?_
  rintro e w4 ⟨rfl, hr, hg⟩
  have HR4 : Hid (Pw.Rd w4 qr y3 b3) := hr
  have HA4 : Hid (RepV w4 q0 Rq.zero (.slice none 0 0)) := HA3.out.grown hg (by have := HQ1.out; omega)
  have HB4 : Hid (Below w.heap.size w w4) := Below.reader HB3.out hg (Nat.le_refl _) (by have := HQ0.out; have := HQ1.out; omega)
  clear hr hg
  go_wp2_with fail
  refine (rI64_at qr y3 b3 _ _ _ _ E4.out HR4.out).mono ?_
  rintro e w5 ⟨rfl, hr, hg⟩
  have HR5 : Hid (Pw.Rd w5 qr y4 b4) := hr
  have HA5 : Hid (RepV w5 q0 Rq.zero (.slice none 0 0)) := HA4.out.grown hg (by have := HQ1.out; omega)
  have HB5 : Hid (Below w.heap.size w w5) := Below.reader HB4.out hg (Nat.le_refl _) (by have := HQ0.out; have := HQ1.out; omega)
  clear hr hg
  obtain ⟨qq, hqq⟩ : ∃ q, q = w5.heap.size := ⟨_, rfl⟩
  obtain ⟨w6, hw6⟩ : ∃ W, W = w5.alloc (.cells #[.int .i64 n1, .int .i64 n2, .int .i64 n3, .int .i64 n4, .slice none 0 0] 26) := ⟨_, rfl⟩
  have HLT : Hid (qr < qq) := by rw [hqq]; exact HR5.out.lt
  have HG6 : Hid (GetR w w6 q0 qr qq ⟨n1, n2, n3, n4, []⟩ (.slice none 0 0) [] ∧ Pw.Rd w6 qr y4 b4) := by
    have hg : w5.grownBy w6 (some qq) := by rw [hw6]; exact World.grownBy_alloc _ _ _
    exact ⟨⟨HA5.out.grown hg (by have := HQ1.out; have := HLT.out; omega), by rw [hw6, hqq]; exact RepV.made w5 ⟨n1, n2, n3, n4, []⟩ _ _, Xo.nil _ _, HQ0.out, HQ1.out, HLT.out, Below.reader HB5.out hg (Nat.le_refl _) (by have := HQ0.out; have := HQ1.out; have := HLT.out; omega)⟩, HR5.out.grown hg HLT.out⟩
  go_wp2_with fail
  rw [← hw6, ← hqq]
  clear hw6 hqq
  refine (rCount_at qr 16 y4 b4 _ _ _ _ E5.out HG6.out.2).mono ?_
  rintro e w7 ⟨rfl, hr, hg⟩
  have HG7 : Hid (GetR w w7 q0 qr qq ⟨n1, n2, n3, n4, []⟩ (.slice none 0 0) [] ∧ Pw.Rd w7 qr y5 b5) := ⟨HG6.out.1.read hg, hr⟩
  clear hr hg
  go_wp2
  go_loopw [19] (fun i wr => ∃ (k : Nat) (ys : List UInt8) (bad : Bool) (u : Value) (ps : List (X × Value)), k ≤ c ∧ i = .int .i64 (k : Int) ∧ ps.length = k ∧ GetR w wr q0 qr qq ⟨n1, n2, n3, n4, []⟩ u ps ∧ Pw.Rd wr qr ys bad ∧ Rq.nxXs c y5 b5 = (ps.map (·.1) ++ (Rq.nxXs (c - k) ys bad).1, (Rq.nxXs (c - k) ys bad).2)) (fun i _ => ((c : Int) - intOf i).toNat)
  case atStart => exact ⟨0, y5, b5, .slice none 0 0, [], Nat.zero_le _, rfl, rfl, HG7.out.1, HG7.out.2, by simp⟩
  case round =>
    obtain ⟨k, ys, bad, u, ps, hk, rfl, hpl, hgs, hrr, hrd⟩ := hrel
    obtain ⟨au, mu, cu, rfl⟩ := slice_of hgs.own.own
    have HGS : Hid (GetR w wr q0 qr qq ⟨n1, n2, n3, n4, []⟩ (.slice au mu cu) ps ∧ Pw.Rd wr qr ys bad) := ⟨hgs, hrr⟩
    have HRD : Hid (ps.length = k ∧ Rq.nxXs c y5 b5 = (ps.map (·.1) ++ (Rq.nxXs (c - k) ys bad).1, (Rq.nxXs (c - k) ys bad).2)) := ⟨hpl, hrd⟩
    clear hgs hrr hpl hrd
    by_cases hlt : k < c
    · have hlt' : (k : Int) < (c : Int) := by omega
      have HPL : Hid (ps.length ≤ 1000) := by
        have h : ps.length ≤ 1000 := by rw [HRD.out.1]; omega
        exact h
      obtain ⟨x, yE, bE, hE⟩ : ∃ a b c, Rq.nxX ys bad = (a, b, c) := ⟨_, _, _, rfl⟩
      have EX : Hid (Rq.nxX ys bad = (x, yE, bE)) := hE
      clear hE
      have HRD2 : Hid (∀ nx : Value, (ps ++ [(x, nx)]).length = k + 1 ∧ Rq.nxXs c y5 b5 = ((ps ++ [(x, nx)]).map (·.1) ++ (Rq.nxXs (c - (k + 1)) yE bE).1, (Rq.nxXs (c - (k + 1)) yE bE).2)) := fun nx => by
        refine ⟨by rw [List.length_append, HRD.out.1]; rfl, ?_⟩
        have h := Rq.nxXs_step hlt HRD.out.2
        rw [EX.out] at h
        rw [List.map_append]
        exact h
      have HGX : Hid (GetR w wr.drew q0 qr qq ⟨n1, n2, n3, n4, []⟩ (.slice au mu cu) ps ∧ Pw.Rd wr.drew qr ys bad) := ⟨HGS.out.1.read (grownBy_drew wr (some qr)), HGS.out.2.below (Below.refl _ _).drew⟩
      go_wp2_with fail
      refine wp_region_held_drew (S := fun _ => True) (by kernel_rfl) trivial (fun _ => ?_)
      generalize wr.drew = wX at *
      refine' take_at (i := 0) (d := 21) (v := _) rfl rfl (by kernel_rfl) (by kernel_rfl) (by kernel_rfl) (fun _ _ _ h => h) (Or.inl ⟨by rfl, ?h0⟩) trivial ?_
      case h0 => intro w hSw; go_simp; with_reducible rfl
      simp only [List.setIfInBounds_toArray, List.set_cons_zero, List.set_cons_succ]
      refine' take_at (i := 2) (d := 23) (v := _) rfl rfl (by kernel_rfl) (by kernel_rfl) (by kernel_rfl) (fun _ _ _ h => h) (Or.inl ⟨by rfl, ?h2⟩) trivial ?_
      case h2 => intro w hSw; go_simp; with_reducible rfl
      simp only [List.setIfInBounds_toArray, List.set_cons_zero, List.set_cons_succ]
      refine wpAnyH_ready (rs := [1, 3]) (by kernel_rfl) (by simp) ?_
      refine AllReadyH.cons (o := _) rfl (fun K hK => ?_) (AllReadyH.cons (o := _) rfl (fun K hK => ?_) AllReadyH.nil)
      · have hc2 := HGX.out.1.rep.box.c4
        go_simp
        clear hc2
        refine hK.out _ _ trivial (fun _ => ?_)
        clear hK K
        refine wpAnyH_ready (rs := [3]) (by kernel_rfl) (by simp) ?_
        refine AllReadyH.cons (o := _) rfl (fun K hK => ?_) AllReadyH.nil
        go_simp
        refine (next_any6 qr ys yE bad bE x _ EX.out HGX.out.2).mono ?_
        rintro e wY ⟨nx, rfl, hr, ho, hg⟩
        obtain ⟨ax, mx, cx, rfl⟩ := slice_of ho
        have HGY : Hid (GetR w wY q0 qr qq ⟨n1, n2, n3, n4, []⟩ (.slice au mu cu) ps ∧ Pw.Rd wY qr yE bE ∧ wY.ownsRow (qq + 1) 9 1 (.slice ax mx cx) x.names.length (sc x.names)) := ⟨HGX.out.1.read hg, hr, ho.mono HGX.out.1.rep.lt⟩
        clear hr hg ho
        simp only []
        refine hK.out _ _ trivial (fun _ => ?_)
        clear hK K
        refine wpAnyH_ready (rs := [4]) (by kernel_rfl) (by simp) ?_
        refine AllReadyH.cons (o := _) rfl (fun K hK => ?_) AllReadyH.nil
        go_simp
        refine hK.out _ _ trivial (fun _ => ?_)
        clear hK K
        obtain ⟨qz, hqz⟩ : ∃ q, q = wY.heap.size := ⟨_, rfl⟩
        rw [← hqz]
        refine wpAnyH_ready (rs := [5]) (by kernel_rfl) (by simp) ?_
        refine AllReadyH.cons (o := _) rfl (fun K hK => ?_) AllReadyH.nil
        refine wp_x1 _ _ rfl (qq + 1) (.slice au mu cu) ps (x, .slice ax mx cx) wY qz hqz rfl rfl HGY.out.1.own HGY.out.2.2 HGY.out.1.rep.lt HPL.out ?_
        intro u2 wZ hX2 hg2
        obtain ⟨a2, m2, cc2, rfl⟩ := slice_of hX2.own
        have hpush := HGY.out.1.push (World.grownBy_alloc _ _ none) hg2 hX2
        have HVZ : Hid (RepV wZ qq ⟨n1, n2, n3, n4, []⟩ (.slice au mu cu)) := hpush.2.1
        have HGZ : Hid (GetR w (wZ.setCell ⟨qq, 4, none⟩ (.slice a2 m2 cc2)) q0 qr qq ⟨n1, n2, n3, n4, []⟩ (.slice a2 m2 cc2) (ps ++ [(x, .slice ax mx cx)]) ∧ Pw.Rd (wZ.setCell ⟨qq, 4, none⟩ (.slice a2 m2 cc2)) qr yE bE) := ⟨hpush.1, hpush.2.2 _ _ HGY.out.2.1⟩
        clear hX2 hg2 hqz hpush
        go_simp
        refine hK.out _ _ trivial (fun _ => ?_)
        clear hK K
        refine' take_at (i := 6) (d := 27) (v := _) rfl rfl (by kernel_rfl) (by kernel_rfl) (by kernel_rfl) (fun _ _ _ h => h) (Or.inl ⟨by rfl, ?h6⟩) trivial ?_
        case h6 => intro w hSw; go_simp; with_reducible rfl
        simp only [List.setIfInBounds_toArray, List.set_cons_zero, List.set_cons_succ]
        refine wpAnyH_ready (rs := [7]) (by kernel_rfl) (by simp) ?_
        refine AllReadyH.cons (o := _) rfl (fun K hK => ?_) AllReadyH.nil
        have hc2 := HVZ.out.box.c4
        have hf2 := HVZ.out.free 4
        go_simp
        clear hc2 hf2
        refine hK.out _ _ trivial (fun _ => ?_)
        clear hK K
        refine wpAnyH_done (by kernel_rfl) ?_ _
        generalize wZ.setCell ⟨qq, 4, none⟩ (.slice a2 m2 cc2) = wW at *
        go_wp2
        go_roundw
        case rel => exact ⟨k + 1, yE, bE, .slice a2 m2 cc2, ps ++ [(x, .slice ax mx cx)], by omega, by go_num, (HRD2.out _).1, HGZ.out.1, HGZ.out.2, (HRD2.out _).2⟩
        case measure => simp [intOf]; omega
      · go_simp
        refine (next_any6 qr ys yE bad bE x _ EX.out HGX.out.2).mono ?_
        rintro e wY ⟨nx, rfl, hr, ho, hg⟩
        obtain ⟨ax, mx, cx, rfl⟩ := slice_of ho
        have HGY : Hid (GetR w wY q0 qr qq ⟨n1, n2, n3, n4, []⟩ (.slice au mu cu) ps ∧ Pw.Rd wY qr yE bE ∧ wY.ownsRow (qq + 1) 9 1 (.slice ax mx cx) x.names.length (sc x.names)) := ⟨HGX.out.1.read hg, hr, ho.mono HGX.out.1.rep.lt⟩
        clear hr hg ho
        simp only []
        refine hK.out _ _ trivial (fun _ => ?_)
        clear hK K
        refine wpAnyH_ready (rs := [1, 4]) (by kernel_rfl) (by simp) ?_
        refine AllReadyH.cons (o := _) rfl (fun K hK => ?_) (AllReadyH.cons (o := _) rfl (fun K hK => ?_) AllReadyH.nil)
        · have hc2 := HGY.out.1.rep.box.c4
          go_simp
          clear hc2
          refine hK.out _ _ trivial (fun _ => ?_)
          clear hK K
          refine wpAnyH_ready (rs := [4]) (by kernel_rfl) (by simp) ?_
          refine AllReadyH.cons (o := _) rfl (fun K hK => ?_) AllReadyH.nil
          go_simp
          refine hK.out _ _ trivial (fun _ => ?_)
          clear hK K
          obtain ⟨qz, hqz⟩ : ∃ q, q = wY.heap.size := ⟨_, rfl⟩
          rw [← hqz]
          refine wpAnyH_ready (rs := [5]) (by kernel_rfl) (by simp) ?_
          refine AllReadyH.cons (o := _) rfl (fun K hK => ?_) AllReadyH.nil
          refine wp_x1 _ _ rfl (qq + 1) (.slice au mu cu) ps (x, .slice ax mx cx) wY qz hqz rfl rfl HGY.out.1.own HGY.out.2.2 HGY.out.1.rep.lt HPL.out ?_
          intro u2 wZ hX2 hg2
          obtain ⟨a2, m2, cc2, rfl⟩ := slice_of hX2.own
          have hpush := HGY.out.1.push (World.grownBy_alloc _ _ none) hg2 hX2
          have HVZ : Hid (RepV wZ qq ⟨n1, n2, n3, n4, []⟩ (.slice au mu cu)) := hpush.2.1
          have HGZ : Hid (GetR w (wZ.setCell ⟨qq, 4, none⟩ (.slice a2 m2 cc2)) q0 qr qq ⟨n1, n2, n3, n4, []⟩ (.slice a2 m2 cc2) (ps ++ [(x, .slice ax mx cx)]) ∧ Pw.Rd (wZ.setCell ⟨qq, 4, none⟩ (.slice a2 m2 cc2)) qr yE bE) := ⟨hpush.1, hpush.2.2 _ _ HGY.out.2.1⟩
          clear hX2 hg2 hqz hpush
          go_simp
          refine hK.out _ _ trivial (fun _ => ?_)
          clear hK K
          refine' take_at (i := 6) (d := 27) (v := _) rfl rfl (by kernel_rfl) (by kernel_rfl) (by kernel_rfl) (fun _ _ _ h => h) (Or.inl ⟨by rfl, ?h6⟩) trivial ?_
          case h6 => intro w hSw; go_simp; with_reducible rfl
          simp only [List.setIfInBounds_toArray, List.set_cons_zero, List.set_cons_succ]
          refine wpAnyH_ready (rs := [7]) (by kernel_rfl) (by simp) ?_
          refine AllReadyH.cons (o := _) rfl (fun K hK => ?_) AllReadyH.nil
          have hc2 := HVZ.out.box.c4
          have hf2 := HVZ.out.free 4
          go_simp
          clear hc2 hf2
          refine hK.out _ _ trivial (fun _ => ?_)
          clear hK K
          refine wpAnyH_done (by kernel_rfl) ?_ _
          generalize wZ.setCell ⟨qq, 4, none⟩ (.slice a2 m2 cc2) = wW at *
          go_wp2
          go_roundw
          case rel => exact ⟨k + 1, yE, bE, .slice a2 m2 cc2, ps ++ [(x, .slice ax mx cx)], by omega, by go_num, (HRD2.out _).1, HGZ.out.1, HGZ.out.2, (HRD2.out _).2⟩
          case measure => simp [intOf]; omega
        · go_simp
          refine hK.out _ _ trivial (fun _ => ?_)
          clear hK K
          refine wpAnyH_ready (rs := [1]) (by kernel_rfl) (by simp) ?_
          refine AllReadyH.cons (o := _) rfl (fun K hK => ?_) AllReadyH.nil
          have hc2 : (wY.alloc (.cells #[.int .i64 x.err, .string x.path, .string x.data, .slice ax mx cx, .int .i64 x.made, .int .i64 x.changed, .int .i64 x.ver, .int .i64 x.kids, .int .i64 x.owner, .int .i64 x.len, .int .i64 x.cnt] 35)).cell? ⟨qq, 4, none⟩ = some (.slice au mu cu) := Below.kept ((Below.refl _ wY).alloc (Nat.le_refl _) _) HGY.out.1.rep.box.c4
          go_simp
          clear hc2
          refine hK.out _ _ trivial (fun _ => ?_)
          clear hK K
          obtain ⟨qz, hqz⟩ : ∃ q, q = wY.heap.size := ⟨_, rfl⟩
          rw [← hqz]
          refine wpAnyH_ready (rs := [5]) (by kernel_rfl) (by simp) ?_
          refine AllReadyH.cons (o := _) rfl (fun K hK => ?_) AllReadyH.nil
          refine wp_x1 _ _ rfl (qq + 1) (.slice au mu cu) ps (x, .slice ax mx cx) wY qz hqz rfl rfl HGY.out.1.own HGY.out.2.2 HGY.out.1.rep.lt HPL.out ?_
          intro u2 wZ hX2 hg2
          obtain ⟨a2, m2, cc2, rfl⟩ := slice_of hX2.own
          have hpush := HGY.out.1.push (World.grownBy_alloc _ _ none) hg2 hX2
          have HVZ : Hid (RepV wZ qq ⟨n1, n2, n3, n4, []⟩ (.slice au mu cu)) := hpush.2.1
          have HGZ : Hid (GetR w (wZ.setCell ⟨qq, 4, none⟩ (.slice a2 m2 cc2)) q0 qr qq ⟨n1, n2, n3, n4, []⟩ (.slice a2 m2 cc2) (ps ++ [(x, .slice ax mx cx)]) ∧ Pw.Rd (wZ.setCell ⟨qq, 4, none⟩ (.slice a2 m2 cc2)) qr yE bE) := ⟨hpush.1, hpush.2.2 _ _ HGY.out.2.1⟩
          clear hX2 hg2 hqz hpush
          go_simp
          refine hK.out _ _ trivial (fun _ => ?_)
          clear hK K
          refine' take_at (i := 6) (d := 27) (v := _) rfl rfl (by kernel_rfl) (by kernel_rfl) (by kernel_rfl) (fun _ _ _ h => h) (Or.inl ⟨by rfl, ?h6⟩) trivial ?_
          case h6 => intro w hSw; go_simp; with_reducible rfl
          simp only [List.setIfInBounds_toArray, List.set_cons_zero, List.set_cons_succ]
          refine wpAnyH_ready (rs := [7]) (by kernel_rfl) (by simp) ?_
          refine AllReadyH.cons (o := _) rfl (fun K hK => ?_) AllReadyH.nil
          have hc2 := HVZ.out.box.c4
          have hf2 := HVZ.out.free 4
          go_simp
          clear hc2 hf2
          refine hK.out _ _ trivial (fun _ => ?_)
          clear hK K
          refine wpAnyH_done (by kernel_rfl) ?_ _
          generalize wZ.setCell ⟨qq, 4, none⟩ (.slice a2 m2 cc2) = wW at *
          go_wp2
          go_roundw
          case rel => exact ⟨k + 1, yE, bE, .slice a2 m2 cc2, ps ++ [(x, .slice ax mx cx)], by omega, by go_num, (HRD2.out _).1, HGZ.out.1, HGZ.out.2, (HRD2.out _).2⟩
          case measure => simp [intOf]; omega
    · have hlt' : ¬ (k : Int) < (c : Int) := by omega
      have HXS : Hid ((Rq.nxXs c y5 b5).1 = ps.map (·.1)) := by
        have h : (Rq.nxXs c y5 b5).1 = ps.map (·.1) := by
          have h := HRD.out.2
          rw [show c - k = 0 by omega] at h
          rw [h]
          simp [Rq.nxXs]
        exact h
      obtain ⟨xs, hxs⟩ : ∃ xs, xs = ps.map (·.1) := ⟨_, rfl⟩
      have HPS : Hid (ps.map (·.1) = xs) := hxs.symm
      rw [← hxs] at HXS
      clear hxs
      have HRL : Hid (Rl wr (.slice au mu cu) xs) := by
        have h := HGS.out.1.own.rl
        rw [HPS.out] at h
        exact h
      have HSM : Hid (xs.length ≤ 20 ∧ ∀ x ∈ xs, Rq.Small x) := by
        refine ⟨?_, fun x hx => (Rq.nxXs_fit c y5 b5 x (by rw [HXS.out]; exact hx)).1⟩
        rw [← HXS.out, Rq.nxXs_len]
        omega
      have hr0 := HGS.out.1.rep.box.c0
      have hr1 := HGS.out.1.rep.box.c1
      have hr2 := HGS.out.1.rep.box.c2
      have hr3 := HGS.out.1.rep.box.c3
      have hr4 := HGS.out.1.rep.box.c4
      simp only [] at hr0 hr1 hr2 hr3 hr4
      go_wp2_with fail
      clear hr0 hr1 hr2 hr3 hr4
      refine (put_any6 ⟨n1, n2, n3, n4, xs⟩ (.slice au mu cu) _ HRL.out HSM.out.1 HSM.out.2).mono ?_
      rintro e wa ⟨va, rfl, hbs, hba⟩
      have HSA : Hid (Bs wa va (Rq.bytes ⟨n1, n2, n3, n4, xs⟩)) := hbs
      have HGA : Hid (GetR w wa q0 qr qq ⟨n1, n2, n3, n4, []⟩ (.slice au mu cu) ps) := HGS.out.1.later hba
      clear hbs hba
      go_wp2_with fail
      refine (bytesEqual_any va _ (Rq.bytes ⟨n1, n2, n3, n4, xs⟩) b _ HSA.out (HV.out.1.below HGA.out.below)).mono ?_
      rintro e wb ⟨C, rfl, hC, hbb⟩
      have HC : Hid (C = true ↔ Rq.bytes ⟨n1, n2, n3, n4, xs⟩ = b) := hC
      have HGB : Hid (GetR w wb q0 qr qq ⟨n1, n2, n3, n4, []⟩ (.slice au mu cu) ps) := HGA.out.later hbb
      clear hC hbb
      have hc0 := HGB.out.ans.box.c0
      have hc1 := HGB.out.ans.box.c1
      have hc2 := HGB.out.ans.box.c2
      have hc3 := HGB.out.ans.box.c3
      have hc4 := HGB.out.ans.box.c4
      have hf0 := HGB.out.ans.free 0
      have hf1 := HGB.out.ans.free 1
      have hf2 := HGB.out.ans.free 2
      have hf3 := HGB.out.ans.free 3
      have hf4 := HGB.out.ans.free 4
      simp only [Rq.zero] at hc0 hc1 hc2 hc3 hc4
      cases C with
      | false =>
        have HNO : Hid (∀ r, ¬ Rq.Is b r) := by
          have h : ∀ r, ¬ Rq.Is b r := fun r hi => by
            have h1 := Rq.is_next hi HHD.out
            rw [HXS.out] at h1
            have h2 := HC.out.2 (by rw [← h1]; exact hi.eq)
            cases h2
          exact h
        go_wp2
        clear hc0 hc1 hc2 hc3 hc4 hf0 hf1 hf2 hf3 hf4
        have htold := HGB.out.told Rq.zero (.slice none 0 0)
        simp only [Rq.zero] at htold
        generalize ((((wb.setCell ⟨q0, 0, none⟩ (.int .i64 0)).setCell ⟨q0, 1, none⟩ (.int .i64 0)).setCell ⟨q0, 2, none⟩ (.int .i64 0)).setCell ⟨q0, 3, none⟩ (.int .i64 0)).setCell ⟨q0, 4, none⟩ (.slice none 0 0) = wz at *
        obtain ⟨hzb, ⟨hz0, hz1, hz2, hz3, hz4⟩, hol⟩ := htold
        simp only [] at hz0 hz1 hz2 hz3 hz4
        (try simp only [Exit.inBlock, Exit.then])
        refine bodyPost_ret (v := .tuple #[.agg #[.int .i64 0, .int .i64 0, .int .i64 0, .int .i64 0, .slice none 0 0], .int .i64 3]) ?_ rfl ⟨hzb, Or.inr ⟨_, rfl, Rl.nil wz, HNO.out⟩⟩
        rw [results_cell_tmp rfl]
        go_simp
      | true =>
        have HIS : Hid (Rq.Is b ⟨n1, n2, n3, n4, xs⟩) := by
          have h := Rq.next_is HHD.out (by rw [HXS.out]; exact HC.out.1 rfl)
          rw [HXS.out] at h
          exact h
        have hr0 := HGB.out.rep.box.c0
        have hr1 := HGB.out.rep.box.c1
        have hr2 := HGB.out.rep.box.c2
        have hr3 := HGB.out.rep.box.c3
        have hr4 := HGB.out.rep.box.c4
        simp only [] at hr0 hr1 hr2 hr3 hr4
        go_wp2
        clear hc0 hc1 hc2 hc3 hc4 hf0 hf1 hf2 hf3 hf4 hr0 hr1 hr2 hr3 hr4
        have htold := HGB.out.told ⟨n1, n2, n3, n4, []⟩ (.slice au mu cu)
        rw [HPS.out] at htold
        simp only [] at htold
        generalize ((((wb.setCell ⟨q0, 0, none⟩ (.int .i64 n1)).setCell ⟨q0, 1, none⟩ (.int .i64 n2)).setCell ⟨q0, 2, none⟩ (.int .i64 n3)).setCell ⟨q0, 3, none⟩ (.int .i64 n4)).setCell ⟨q0, 4, none⟩ (.slice au mu cu) = wz at *
        obtain ⟨hzb, ⟨hz0, hz1, hz2, hz3, hz4⟩, hol⟩ := htold
        simp only [] at hz0 hz1 hz2 hz3 hz4
        (try simp only [Exit.inBlock, Exit.then])
        refine bodyPost_ret (v := .tuple #[.agg #[.int .i64 n1, .int .i64 n2, .int .i64 n3, .int .i64 n4, .slice au mu cu], .int .i64 0]) ?_ rfl ⟨hzb, Or.inl ⟨⟨n1, n2, n3, n4, xs⟩, .slice au mu cu, rfl, hol, HIS.out⟩⟩
        rw [results_cell_tmp rfl]
        go_simp
end Go.Proofs.Ytebmcjhhoionbaa
