/- What the reference's Crash does. -/
import Derived.Test.YtphmmdjefpfehaaROps7
namespace Go.Proofs.Ytphmmdjefpfehaa
open Go.RowKit

/-- What a crash leaves of a file. -/
def Dq.cr (keep : Int) (f : Dq.Fl) : Dq.Fl := { f with b := f.b.take (Dq.kept f keep), safe := Dq.kept f keep }
/-- The files behind the first k of a crash. -/
def Dq.crs (keep : Int) (k : Nat) (fs : List Dq.Fl) : List Dq.Fl := (fs.take k).map (Dq.cr keep) ++ fs.drop k

theorem crs_get {keep : Int} {k : Nat} {fs : List Dq.Fl} (hk : k ≤ fs.length) : (Dq.crs keep k fs)[k]? = fs[k]? := by
  unfold Dq.crs
  rw [List.getElem?_append_right (by rw [List.length_map, List.length_take]; omega), List.length_map, List.length_take, List.getElem?_drop]
  congr 1
  omega
theorem crs_len (keep : Int) (k : Nat) (fs : List Dq.Fl) : (Dq.crs keep k fs).length = fs.length := by
  unfold Dq.crs
  rw [List.length_append, List.length_map, List.length_take, List.length_drop]
  omega
theorem crs_set {keep : Int} {k : Nat} {fs : List Dq.Fl} {f : Dq.Fl} (hf : fs[k]? = some f) : (Dq.crs keep k fs).set k (Dq.cr keep f) = Dq.crs keep (k + 1) fs := by
  have hk := (List.getElem?_eq_some_iff.1 hf).1
  have e : fs.drop k = f :: fs.drop (k + 1) := by
    rw [List.drop_eq_getElem_cons hk, (List.getElem?_eq_some_iff.1 hf).2]
  unfold Dq.crs
  rw [e, List.take_add_one, hf, List.map_append]
  rw [List.set_append_right _ _ (by rw [List.length_map, List.length_take]; omega), List.length_map, List.length_take, show k - min k fs.length = 0 by omega]
  simp
theorem crs_all (keep : Int) (fs : List Dq.Fl) : Dq.crs keep fs.length fs = fs.map (Dq.cr keep) := by simp [Dq.crs]

theorem Bs.room7 {w : World} {a : Option Addr} {n c : Nat} {xs : List UInt8} (h : Bs w (.slice a n c) xs) : n ≤ c := by
  obtain ⟨a', n', c', hv, hn, hs⟩ := h
  simp only [Value.slice.injEq] at hv
  obtain ⟨rfl, rfl, rfl⟩ := hv
  rw [hn]
  exact hs.cap

/-- What a Crash has under way. -/
structure CrS (w wr : World) (q : Nat) (st : Dq.St) (G G' : Nat → Prop) (v : Value) (ps : List (Dq.Fl × Value)) : Prop where
  r : RefC wr q st G' v ps
  m : Moved w wr G G'

set_option maxRecDepth 20000 in
set_option maxHeartbeats 8000000 in
theorem refCrash_any (q : Nat) (st : Dq.St) (G : Nat → Prop) (v : Value) (ps : List (Dq.Fl × Value)) (keep : Int) (w : World) (hR : RefC w q st G v ps) (hf : Fine st) (hkb : -9223372036854775808 ≤ keep ∧ keep ≤ 9223372036854775807) :
    Calls Try.prog 26 #[dptr q, .int .i64 keep] w fun e w' => e = .returned (.tuple #[]) ∧ RefPost w q (Dq.crash st keep) G w' := by
  have HF : Hid (Fine st) := hf
  obtain ⟨av, n, cv, rfl, hn, hcv, hns⟩ := hR.begin
  have HN : Hid (n = st.fs.length) := hns
  have hn1 : n ≤ 1000 := by rw [hns]; exact hf.2.1
  obtain ⟨hset, hm0⟩ := hR.set23 true
  have HC0 : Hid (CrS w (w.setCell ⟨q, 2, none⟩ (.bool true)) q { st with off := true, fs := Dq.crs keep 0 st.fs } G G (.slice av n cv) ps) := ⟨hset.as (by simp [Dq.crs]), hm0⟩
  have hc2 := hR.c2
  have hz2 := hR.free 2
  obtain ⟨FF, hFF⟩ : ∃ z, z = Dq.crash st keep := ⟨_, rfl⟩
  have HFF : Hid (FF = { st with off := true, fs := Dq.crs keep n st.fs }) := by
    have h : FF = { st with off := true, fs := Dq.crs keep n st.fs } := by rw [hFF, hns, crs_all]; rfl
    exact h
  rw [← hFF]
  clear hset hm0 hR hf hn hns hFF
  go_enter Try.func26, Try.ntmps26
  go_upto_region 1 with fail
  clear hc2 hz2
  generalize w.setCell ⟨q, 2, none⟩ (.bool true) = w1 at *
  go_wp2
  go_loopw [4] (fun i wr => ∃ (k : Nat) (G' : Nat → Prop) (ps' : List (Dq.Fl × Value)), k ≤ n ∧ i = .int .i64 (k : Int) ∧ CrS w wr q { st with off := true, fs := Dq.crs keep k st.fs } G G' (.slice av n cv) ps') (fun i _ => ((n : Int) - intOf i).toNat)
  case atStart => exact ⟨0, G, ps, Nat.zero_le _, rfl, HC0.out⟩
  case round =>
    obtain ⟨k, G', ps', hk, rfl, hcs⟩ := hrel
    have HC : Hid (CrS w wr q { st with off := true, fs := Dq.crs keep k st.fs } G G' (.slice av n cv) ps') := hcs
    clear hcs
    have hc1 := HC.out.r.c1
    by_cases hlt : k < n
    · have hlt' : (k : Int) < (n : Int) := by omega
      have hk0 : (0 : Int) ≤ (k : Int) := by omega
      obtain ⟨f, hfk⟩ : ∃ f, st.fs[k]? = some f := ⟨st.fs[k]'(by rw [← HN.out]; exact hlt), List.getElem?_eq_getElem _⟩
      have hfk2 : (Dq.crs keep k st.fs)[k]? = some f := by rw [crs_get (by rw [← HN.out]; exact hk)]; exact hfk
      obtain ⟨bv, hp⟩ := HC.out.r.fileOf hfk2
      obtain ⟨g, cap, hv, hcap, _, hgl, f0, f1, f2, fz⟩ := HC.out.r.fo.cell hp
      simp only [Value.slice.injEq] at hv
      obtain ⟨rfl, hq2, rfl⟩ := hv
      have ho := HC.out.r.fo.bytes _ (List.mem_of_getElem? hp)
      have hbs := Bs.own ho
      obtain ⟨ab, nb, cb, hbv, hnb, _⟩ := Bs.own ho
      simp only [] at hbv f0 f1 f2 ho hbs hnb
      subst hbv
      have hnc := hbs.room7
      have hsl : f.safe ≤ nb := by rw [hnb]; exact HF.out.1.safe f (List.mem_of_getElem? hfk)
      have hfb : nb ≤ 1048576 := by
        rw [hnb]
        have h1 := Dq.size_upd (g := fun f => { f with b := [] }) HF.out.1.rises (s := f.name) (f := f) (by
          cases e : Dq.get f.name st.fs with
          | none => exact absurd rfl (Dq.get_none e f (List.mem_of_getElem? hfk))
          | some f2 =>
            obtain ⟨h4, h5⟩ := Dq.get_some e
            obtain ⟨j, hj⟩ := List.getElem?_of_mem h4
            have h6 := Dq.upd_set (g := fun x => { x with safe := 0 }) HF.out.1.rises hj h5
            have h7 := Dq.upd_set (g := fun x => { x with safe := 0 }) HF.out.1.rises hfk rfl
            by_cases hjk : j = k
            · subst hjk
              rw [hfk] at hj
              exact hj.symm
            · exfalso
              have hpw := HF.out.1.rises
              unfold Dq.Rises at hpw
              rw [List.pairwise_iff_getElem] at hpw
              obtain ⟨hj1, hj2⟩ := List.getElem?_eq_some_iff.1 hj
              obtain ⟨hk1, hk2⟩ := List.getElem?_eq_some_iff.1 hfk
              rcases Nat.lt_or_gt_of_ne hjk with h8 | h8
              · have := hpw j k hj1 hk1 h8
                rw [hj2, hk2, h5, Dq.less_irrefl] at this
                cases this
              · have := hpw k j hk1 hj1 h8
                rw [hj2, hk2, h5, Dq.less_irrefl] at this
                cases this)
        have h2 := HF.out.1.fits
        have h3 := HF.out.1.room.2
        simp only [List.length_nil] at h1
        omega
      have HP : Hid (ps'[k]? = some (f, .slice ab nb cb) ∧ st.fs[k]? = some f ∧ nb = f.b.length ∧ Bs wr (.slice ab nb cb) f.b ∧ n = ps'.length) := ⟨hp, hfk, hnb, hbs, by have := HC.out.r.len; simp only [crs_len] at this; rw [this, ← HN.out]⟩
      obtain ⟨sf, hsf⟩ : ∃ z, z = f.safe := ⟨_, rfl⟩
      rw [← hsf] at f2 hsl
      have HSF : Hid (sf = f.safe) := hsf
      have HFZ : Hid (∀ j : Nat, wr.frozen? ⟨g, j, none⟩ = false) := fz
      clear hq2 hp hfk hfk2 hcap ho hbs hnb hsf fz hgl
      have hsub : IntKind.wrap .i64 ((nb : Int) - (sf : Int)) = (nb : Int) - (sf : Int) := by rw [IntKind.wrap_i64]; omega
      by_cases h1 : keep < (nb : Int) - (sf : Int)
      · by_cases h2 : keep < 0
        · go_wp2
          go_quiet (fail)
          have HCD : Hid (CrS w ((wr.drewN nq).drew) q { st with off := true, fs := Dq.crs keep k st.fs } G G' (.slice (some ⟨g, 0, none⟩) n cv) ps' ∧ Bs ((wr.drewN nq).drew) (.slice ab nb cb) f.b) := ⟨⟨HC.out.r.below (below_drewN (Below.refl _ _) _).drew, HC.out.m.trans (Moved.of_below _ (below_drewN (Below.refl _ _) _).drew)⟩, HP.out.2.2.2.1.below (below_drewN (Below.refl _ _) _).drew⟩
          have HSX0 : Hid (((wr.drewN nq).drew).cell? ⟨g, k * 3 + 1, none⟩ = some (.slice ab nb cb) ∧ ((wr.drewN nq).drew).cell? ⟨g, k * 3 + 2, none⟩ = some (.int .i64 (sf : Int)) ∧ ∀ j : Nat, ((wr.drewN nq).drew).frozen? ⟨g, j, none⟩ = false) := ⟨f1, f2, HFZ.out⟩
          clear hc1 f0 f1 f2 hsub
          obtain ⟨K7, hKe⟩ : ∃ z : Nat, z = sf := ⟨_, rfl⟩
          have hKle : K7 ≤ nb := by omega
          have hadd : IntKind.wrap .i64 (sf : Int) = (K7 : Int) := by rw [IntKind.wrap_i64]; omega
          have hK1 : (0 : Int) ≤ (K7 : Int) := by omega
          have hK2 : (K7 : Int) ≤ (cb : Int) := by omega
          have HKP : Hid (K7 = Dq.kept f keep) := by
            have h : K7 = Dq.kept f keep := by unfold Dq.kept; rw [← HSF.out, ← HP.out.2.2.1]; omega
            exact h
          clear hKe
          go_wp2_with fail
          refine wp_region_T (fun w' => w'.cell? ⟨g, k * 3 + 1, none⟩ = some (.slice ab nb cb) ∧ w'.cell? ⟨g, k * 3 + 2, none⟩ = some (.int .i64 (sf : Int))) 16 (by kernel_rfl) ?_
          generalize (wr.drewN nq).drew = wX at *
          have HSB : Hid (∀ w', Below wX.heap.size wX w' → w'.cell? ⟨g, k * 3 + 1, none⟩ = some (.slice ab nb cb) ∧ w'.cell? ⟨g, k * 3 + 2, none⟩ = some (.int .i64 (sf : Int))) := fun w' hb => ⟨Below.kept hb HSX0.out.1, Below.kept hb HSX0.out.2.1⟩
          have HSX : Hid (wX.cell? ⟨g, k * 3 + 1, none⟩ = some (.slice ab nb cb) ∧ wX.cell? ⟨g, k * 3 + 2, none⟩ = some (.int .i64 (sf : Int))) := HSB.out _ (Below.refl _ _)
          refine' take_T (i := 0) (d := 41) (v := _) rfl rfl (by kernel_rfl) (by kernel_rfl) (by kernel_rfl) (by kernel_rfl) (by kernel_rfl) (fun _ _ _ h => h) (Or.inl ⟨by rfl, ?h0⟩) HSX.out ?_
          case h0 => intro w hSw; go_simp; with_reducible rfl
          simp only [List.setIfInBounds_toArray, List.set_cons_zero, List.set_cons_succ]
          refine' take_T (i := 2) (d := 43) (v := _) rfl rfl (by kernel_rfl) (by kernel_rfl) (by kernel_rfl) (by kernel_rfl) (by kernel_rfl) (fun _ _ _ h => h) (Or.inl ⟨by rfl, ?h2⟩) HSX.out ?_
          case h2 => intro w hSw; go_simp; with_reducible rfl
          simp only [List.setIfInBounds_toArray, List.set_cons_zero, List.set_cons_succ]
          refine' take_T (i := 3) (d := 44) (v := _) rfl rfl (by kernel_rfl) (by kernel_rfl) (by kernel_rfl) (by kernel_rfl) (by kernel_rfl) (fun _ _ _ h => h) (Or.inl ⟨by rfl, ?h3⟩) HSX.out ?_
          case h3 => intro w hSw; go_simp; with_reducible rfl
          simp only [List.setIfInBounds_toArray, List.set_cons_zero, List.set_cons_succ]
          refine' take_T (i := 4) (d := 45) (v := _) rfl rfl (by kernel_rfl) (by kernel_rfl) (by kernel_rfl) (by kernel_rfl) (by kernel_rfl) (fun _ _ _ h => h) (Or.inl ⟨by rfl, ?h4⟩) HSX.out ?_
          case h4 => intro w hSw; go_simp; with_reducible rfl
          simp only [List.setIfInBounds_toArray, List.set_cons_zero, List.set_cons_succ]
          refine' take_T (i := 5) (d := 46) (v := _) rfl rfl (by kernel_rfl) (by kernel_rfl) (by kernel_rfl) (by kernel_rfl) (by kernel_rfl) (fun _ _ _ h => h) (Or.inl ⟨by rfl, ?h5⟩) HSX.out ?_
          case h5 => intro w hSw; obtain ⟨hs1, hs2⟩ := hSw; go_simp; with_reducible rfl
          simp only [List.setIfInBounds_toArray, List.set_cons_zero, List.set_cons_succ]
          refine' take_T (i := 6) (d := 47) (v := _) rfl rfl (by kernel_rfl) (by kernel_rfl) (by kernel_rfl) (by kernel_rfl) (by kernel_rfl) (fun _ _ _ h => h) (Or.inl ⟨by rfl, ?h6⟩) HSX.out ?_
          case h6 => intro w hSw; go_simp; with_reducible rfl
          simp only [List.setIfInBounds_toArray, List.set_cons_zero, List.set_cons_succ]
          refine' take_T (i := 7) (d := 48) (v := _) rfl rfl (by kernel_rfl) (by kernel_rfl) (by kernel_rfl) (by kernel_rfl) (by kernel_rfl) (fun _ _ _ h => h) (Or.inl ⟨by rfl, ?h7⟩) HSX.out ?_
          case h7 => intro w hSw; go_simp; with_reducible rfl
          simp only [List.setIfInBounds_toArray, List.set_cons_zero, List.set_cons_succ]
          refine' take_T (i := 8) (d := 49) (v := _) rfl rfl (by kernel_rfl) (by kernel_rfl) (by kernel_rfl) (by kernel_rfl) (by kernel_rfl) (fun _ _ _ h => h) (Or.inl ⟨by rfl, ?h8⟩) HSX.out ?_
          case h8 => intro w hSw; go_simp; with_reducible rfl
          simp only [List.setIfInBounds_toArray, List.set_cons_zero, List.set_cons_succ]
          refine' take_T (i := 9) (d := 50) (v := _) rfl rfl (by kernel_rfl) (by kernel_rfl) (by kernel_rfl) (by kernel_rfl) (by kernel_rfl) (fun _ _ _ h => h) (Or.inl ⟨by rfl, ?h9⟩) HSX.out ?_
          case h9 => intro w hSw; obtain ⟨hs1, hs2⟩ := hSw; go_simp; with_reducible rfl
          simp only [List.setIfInBounds_toArray, List.set_cons_zero, List.set_cons_succ]
          refine' take_T (i := 10) (d := 51) (v := _) rfl rfl (by kernel_rfl) (by kernel_rfl) (by kernel_rfl) (by kernel_rfl) (by kernel_rfl) (fun _ _ _ h => h) (Or.inl ⟨by rfl, ?h10⟩) HSX.out ?_
          case h10 => intro w hSw; go_simp; with_reducible rfl
          simp only [List.setIfInBounds_toArray, List.set_cons_zero, List.set_cons_succ]
          refine' take_T (i := 11) (d := 52) (v := _) rfl rfl (by kernel_rfl) (by kernel_rfl) (by kernel_rfl) (by kernel_rfl) (by kernel_rfl) (fun _ _ _ h => h) (Or.inl ⟨by rfl, ?h11⟩) HSX.out ?_
          case h11 => intro w hSw; go_simp; with_reducible rfl
          simp only [List.setIfInBounds_toArray, List.set_cons_zero, List.set_cons_succ]
          refine' take_T (i := 12) (d := 53) (v := _) rfl rfl (by kernel_rfl) (by kernel_rfl) (by kernel_rfl) (by kernel_rfl) (by kernel_rfl) (fun _ _ _ h => h) (Or.inl ⟨by rfl, ?h12⟩) HSX.out ?_
          case h12 => intro w hSw; go_simp; with_reducible rfl
          simp only [List.setIfInBounds_toArray, List.set_cons_zero, List.set_cons_succ]
          refine wpAnyT_ready (rs := [1]) (by kernel_rfl) (by simp) ?_
          refine AllReadyT.cons (o := _) rfl (fun K hK => ?_) AllReadyT.nil
          go_simp
          obtain ⟨q0, hqq⟩ : ∃ z, z = wX.heap.size := ⟨_, rfl⟩
          rw [← hqq]
          have HB1 : Hid (Below wX.heap.size wX (wX.alloc (.cells #[] 5))) := (Below.refl _ wX).alloc (Nat.le_refl _) _
          have HO1 : Hid ((wX.alloc (.cells #[] 5)).ownsRow wX.heap.size 5 1 (.slice (some ⟨q0, 0, none⟩) 0 0) ([] : List UInt8).length (bc [])) := by rw [hqq]; exact World.ownsRow_made wX #[] 0 (Nat.le_refl _) (by decide) rfl
          clear hqq
          generalize wX.alloc (.cells #[] 5) = wY1 at *
          refine hK.out _ _ (fun _ => (HSB.out _ HB1.out)) ?_
          clear hK K
          refine wpAnyT_ready (rs := [13]) (by kernel_rfl) (by simp) ?_
          refine AllReadyT.cons (o := _) rfl (fun K hK => ?_) AllReadyT.nil
          refine wp_bs _ _ rfl wX.heap.size (.slice (some ⟨q0, 0, none⟩) 0 0) (.slice ab K7 cb) ([] : List UInt8) (f.b.take K7) wY1 rfl rfl HO1.out HB1.out.size ((HCD.out.2.cut (k := K7) hKle).below HB1.out) (by have := HP.out.2.2.1; simp only [List.length_nil, List.length_take]; omega) ?_
          intro v2 wY2 ho hg
          have HO2 : Hid (wY2.ownsRow wX.heap.size 5 1 v2 (f.b.take K7).length (bc (f.b.take K7))) := by
            have h : wY2.ownsRow wX.heap.size 5 1 v2 (f.b.take K7).length (bc (f.b.take K7)) := by simpa using ho
            exact h
          have HB2 : Hid (Below wX.heap.size wX wY2) := HB1.out.grown hg HB1.out.size (fun z hz => (HO1.out.lt z hz).1)
          obtain ⟨a2, m2, c2, rfl⟩ := slice_own ho
          have hm2 : K7 = m2 := by
            obtain ⟨a', n', c', hv, hn', _⟩ := Bs.own HO2.out
            simp only [Value.slice.injEq] at hv
            rw [hv.2.1, hn', List.length_take, ← HP.out.2.2.1]
            omega
          subst hm2
          clear ho hg
          go_simp
          refine hK.out _ _ (fun _ => (HSB.out _ HB2.out)) ?_
          clear hK K
          refine' take_T (i := 14) (d := 55) (v := _) rfl rfl (by kernel_rfl) (by kernel_rfl) (by kernel_rfl) (by kernel_rfl) (by kernel_rfl) (fun _ _ _ h => h) (Or.inl ⟨by rfl, ?h14⟩) (HSB.out _ HB2.out) ?_
          case h14 => intro w hSw; go_simp; with_reducible rfl
          simp only [List.setIfInBounds_toArray, List.set_cons_zero, List.set_cons_succ]
          refine' take_T (i := 15) (d := 56) (v := _) rfl rfl (by kernel_rfl) (by kernel_rfl) (by kernel_rfl) (by kernel_rfl) (by kernel_rfl) (fun _ _ _ h => h) (Or.inl ⟨by rfl, ?h15⟩) (HSB.out _ HB2.out) ?_
          case h15 => intro w hSw; go_simp; with_reducible rfl
          simp only [List.setIfInBounds_toArray, List.set_cons_zero, List.set_cons_succ]
          refine wpAnyT_ready (rs := [16]) (by kernel_rfl) (by simp) ?_
          refine AllReadyT.cons (o := _) rfl (fun K hK => ?_) AllReadyT.nil
          have hc := (HSB.out _ HB2.out).1
          have hz : wY2.frozen? ⟨g, k * 3 + 1, none⟩ = false := (World.frozen?_of_block (HB2.out.block g (World.block_lt_of_cell? wX _ HSX.out.1))).trans (HSX0.out.2.2 (k * 3 + 1))
          have HR2 : Hid (RefC (wY2.setCell ⟨g, k * 3 + 1, none⟩ (.slice a2 K7 c2)) q { st with off := true, fs := (ps'.set k ({ f with b := f.b.take K7 }, Value.slice a2 K7 c2)).map (·.1) } (Gx wX wY2 G') (.slice (some ⟨g, 0, none⟩) n cv) (ps'.set k ({ f with b := f.b.take K7 }, .slice a2 K7 c2)) ∧ Moved w (wY2.setCell ⟨g, k * 3 + 1, none⟩ (.slice a2 K7 c2)) G (Gx wX wY2 G')) := by
            obtain ⟨h1, h2⟩ := HCD.out.1.r.put (p' := ({ f with b := f.b.take K7 }, .slice a2 K7 c2)) (j := 1) (u := .slice a2 K7 c2) HP.out.2.2.2.2 HP.out.1 HB2.out (by decide) rfl (HO2.out.mono (show q + 1 ≤ wX.heap.size from HCD.out.1.r.lt)) (fun k hk => Or.inr (HO2.out.lt k hk).1)
            exact ⟨h1, HCD.out.1.m.trans h2⟩
          have HP2 : Hid ((ps'.set k ({ f with b := f.b.take K7 }, Value.slice a2 K7 c2))[k]? = some ({ f with b := f.b.take K7 }, .slice a2 K7 c2)) := by
            have h : (ps'.set k ({ f with b := f.b.take K7 }, Value.slice a2 K7 c2))[k]? = some ({ f with b := f.b.take K7 }, .slice a2 K7 c2) := by
              rw [List.getElem?_set, if_pos rfl, if_pos (by rw [← HP.out.2.2.2.2]; exact hlt)]
            exact h
          go_simp
          clear hc hz
          refine hK.out _ _ (fun h => absurd rfl h) ?_
          clear hK K
          refine wpAnyT_done (by kernel_rfl) ?_ _
          generalize wY2.setCell ⟨g, k * 3 + 1, none⟩ (.slice a2 K7 c2) = wz at *
          obtain ⟨g', cap', hv', _, _, _, f0, f1, f2, fz⟩ := HR2.out.1.fo.cell HP2.out
          simp only [Value.slice.injEq, Option.some.injEq, Addr.mk.injEq, and_true] at hv'
          obtain ⟨rfl, hq2, rfl⟩ := hv'
          simp only [] at f0 f1 f2
          have fz2 := fz (k * 3 + 2)
          clear fz hq2
          have HC2 : Hid (∃ G2, CrS w (wz.setCell ⟨g, k * 3 + 2, none⟩ (.int .i64 ((K7 : Nat) : Int))) q { st with off := true, fs := Dq.crs keep (k + 1) st.fs } G G2 (.slice (some ⟨g, 0, none⟩) n cv) (ps'.set k (Dq.cr keep f, .slice a2 K7 c2))) := by
            have hn : n = (ps'.set k ({ f with b := f.b.take K7 }, Value.slice a2 K7 c2)).length := by rw [List.length_set]; exact HP.out.2.2.2.2
            obtain ⟨h1, h2⟩ := HR2.out.1.put (p' := (Dq.cr keep f, .slice a2 K7 c2)) (j := 2) (u := .int .i64 ((K7 : Nat) : Int)) hn HP2.out (Below.refl _ _) (by decide) (by unfold Dq.cr; rw [← HKP.out]; rfl) (by have h := HR2.out.1.fo.bytes _ (List.mem_of_getElem? HP2.out); unfold Dq.cr; rw [← HKP.out]; exact h) (fun k hk => Or.inl (by have h := HR2.out.1.gb _ (List.mem_of_getElem? HP2.out) k hk; exact h))
            rw [List.set_set] at h1
            refine ⟨_, h1.as ?_, HR2.out.2.trans h2⟩
            have hfs := HCD.out.1.r.fs
            simp only [] at hfs
            simp only [List.map_set, hfs]
            rw [crs_set HP.out.2.1]
          go_wp2
          clear f0 f1 f2 fz2
          generalize wz.setCell ⟨g, k * 3 + 2, none⟩ (.int .i64 ((K7 : Nat) : Int)) = wq at *
          obtain ⟨G2, hC2⟩ := HC2.out
          go_roundw
          case rel => exact ⟨k + 1, G2, _, by omega, by go_num, hC2⟩
          case measure => simp [intOf]; omega
        · obtain ⟨M, rfl⟩ : ∃ z : Nat, keep = (z : Int) := ⟨keep.toNat, by omega⟩
          go_wp2
          go_quiet (fail)
          have HCD : Hid (CrS w ((wr.drewN nq).drew) q { st with off := true, fs := Dq.crs (M : Int) k st.fs } G G' (.slice (some ⟨g, 0, none⟩) n cv) ps' ∧ Bs ((wr.drewN nq).drew) (.slice ab nb cb) f.b) := ⟨⟨HC.out.r.below (below_drewN (Below.refl _ _) _).drew, HC.out.m.trans (Moved.of_below _ (below_drewN (Below.refl _ _) _).drew)⟩, HP.out.2.2.2.1.below (below_drewN (Below.refl _ _) _).drew⟩
          have HSX0 : Hid (((wr.drewN nq).drew).cell? ⟨g, k * 3 + 1, none⟩ = some (.slice ab nb cb) ∧ ((wr.drewN nq).drew).cell? ⟨g, k * 3 + 2, none⟩ = some (.int .i64 (sf : Int)) ∧ ∀ j : Nat, ((wr.drewN nq).drew).frozen? ⟨g, j, none⟩ = false) := ⟨f1, f2, HFZ.out⟩
          clear hc1 f0 f1 f2 hsub
          obtain ⟨K7, hKe⟩ : ∃ z : Nat, z = sf + M := ⟨_, rfl⟩
          have hKle : K7 ≤ nb := by omega
          have hadd : IntKind.wrap .i64 ((sf : Int) + (M : Int)) = (K7 : Int) := by rw [IntKind.wrap_i64]; omega
          have hK1 : (0 : Int) ≤ (K7 : Int) := by omega
          have hK2 : (K7 : Int) ≤ (cb : Int) := by omega
          have HKP : Hid (K7 = Dq.kept f (M : Int)) := by
            have h : K7 = Dq.kept f (M : Int) := by unfold Dq.kept; rw [← HSF.out, ← HP.out.2.2.1]; omega
            exact h
          clear hKe
          go_wp2_with fail
          refine wp_region_T (fun w' => w'.cell? ⟨g, k * 3 + 1, none⟩ = some (.slice ab nb cb) ∧ w'.cell? ⟨g, k * 3 + 2, none⟩ = some (.int .i64 (sf : Int))) 16 (by kernel_rfl) ?_
          generalize (wr.drewN nq).drew = wX at *
          have HSB : Hid (∀ w', Below wX.heap.size wX w' → w'.cell? ⟨g, k * 3 + 1, none⟩ = some (.slice ab nb cb) ∧ w'.cell? ⟨g, k * 3 + 2, none⟩ = some (.int .i64 (sf : Int))) := fun w' hb => ⟨Below.kept hb HSX0.out.1, Below.kept hb HSX0.out.2.1⟩
          have HSX : Hid (wX.cell? ⟨g, k * 3 + 1, none⟩ = some (.slice ab nb cb) ∧ wX.cell? ⟨g, k * 3 + 2, none⟩ = some (.int .i64 (sf : Int))) := HSB.out _ (Below.refl _ _)
          refine' take_T (i := 0) (d := 41) (v := _) rfl rfl (by kernel_rfl) (by kernel_rfl) (by kernel_rfl) (by kernel_rfl) (by kernel_rfl) (fun _ _ _ h => h) (Or.inl ⟨by rfl, ?h0⟩) HSX.out ?_
          case h0 => intro w hSw; go_simp; with_reducible rfl
          simp only [List.setIfInBounds_toArray, List.set_cons_zero, List.set_cons_succ]
          refine' take_T (i := 2) (d := 43) (v := _) rfl rfl (by kernel_rfl) (by kernel_rfl) (by kernel_rfl) (by kernel_rfl) (by kernel_rfl) (fun _ _ _ h => h) (Or.inl ⟨by rfl, ?h2⟩) HSX.out ?_
          case h2 => intro w hSw; go_simp; with_reducible rfl
          simp only [List.setIfInBounds_toArray, List.set_cons_zero, List.set_cons_succ]
          refine' take_T (i := 3) (d := 44) (v := _) rfl rfl (by kernel_rfl) (by kernel_rfl) (by kernel_rfl) (by kernel_rfl) (by kernel_rfl) (fun _ _ _ h => h) (Or.inl ⟨by rfl, ?h3⟩) HSX.out ?_
          case h3 => intro w hSw; go_simp; with_reducible rfl
          simp only [List.setIfInBounds_toArray, List.set_cons_zero, List.set_cons_succ]
          refine' take_T (i := 4) (d := 45) (v := _) rfl rfl (by kernel_rfl) (by kernel_rfl) (by kernel_rfl) (by kernel_rfl) (by kernel_rfl) (fun _ _ _ h => h) (Or.inl ⟨by rfl, ?h4⟩) HSX.out ?_
          case h4 => intro w hSw; go_simp; with_reducible rfl
          simp only [List.setIfInBounds_toArray, List.set_cons_zero, List.set_cons_succ]
          refine' take_T (i := 5) (d := 46) (v := _) rfl rfl (by kernel_rfl) (by kernel_rfl) (by kernel_rfl) (by kernel_rfl) (by kernel_rfl) (fun _ _ _ h => h) (Or.inl ⟨by rfl, ?h5⟩) HSX.out ?_
          case h5 => intro w hSw; obtain ⟨hs1, hs2⟩ := hSw; go_simp; with_reducible rfl
          simp only [List.setIfInBounds_toArray, List.set_cons_zero, List.set_cons_succ]
          refine' take_T (i := 6) (d := 47) (v := _) rfl rfl (by kernel_rfl) (by kernel_rfl) (by kernel_rfl) (by kernel_rfl) (by kernel_rfl) (fun _ _ _ h => h) (Or.inl ⟨by rfl, ?h6⟩) HSX.out ?_
          case h6 => intro w hSw; go_simp; with_reducible rfl
          simp only [List.setIfInBounds_toArray, List.set_cons_zero, List.set_cons_succ]
          refine' take_T (i := 7) (d := 48) (v := _) rfl rfl (by kernel_rfl) (by kernel_rfl) (by kernel_rfl) (by kernel_rfl) (by kernel_rfl) (fun _ _ _ h => h) (Or.inl ⟨by rfl, ?h7⟩) HSX.out ?_
          case h7 => intro w hSw; go_simp; with_reducible rfl
          simp only [List.setIfInBounds_toArray, List.set_cons_zero, List.set_cons_succ]
          refine' take_T (i := 8) (d := 49) (v := _) rfl rfl (by kernel_rfl) (by kernel_rfl) (by kernel_rfl) (by kernel_rfl) (by kernel_rfl) (fun _ _ _ h => h) (Or.inl ⟨by rfl, ?h8⟩) HSX.out ?_
          case h8 => intro w hSw; go_simp; with_reducible rfl
          simp only [List.setIfInBounds_toArray, List.set_cons_zero, List.set_cons_succ]
          refine' take_T (i := 9) (d := 50) (v := _) rfl rfl (by kernel_rfl) (by kernel_rfl) (by kernel_rfl) (by kernel_rfl) (by kernel_rfl) (fun _ _ _ h => h) (Or.inl ⟨by rfl, ?h9⟩) HSX.out ?_
          case h9 => intro w hSw; obtain ⟨hs1, hs2⟩ := hSw; go_simp; with_reducible rfl
          simp only [List.setIfInBounds_toArray, List.set_cons_zero, List.set_cons_succ]
          refine' take_T (i := 10) (d := 51) (v := _) rfl rfl (by kernel_rfl) (by kernel_rfl) (by kernel_rfl) (by kernel_rfl) (by kernel_rfl) (fun _ _ _ h => h) (Or.inl ⟨by rfl, ?h10⟩) HSX.out ?_
          case h10 => intro w hSw; go_simp; with_reducible rfl
          simp only [List.setIfInBounds_toArray, List.set_cons_zero, List.set_cons_succ]
          refine' take_T (i := 11) (d := 52) (v := _) rfl rfl (by kernel_rfl) (by kernel_rfl) (by kernel_rfl) (by kernel_rfl) (by kernel_rfl) (fun _ _ _ h => h) (Or.inl ⟨by rfl, ?h11⟩) HSX.out ?_
          case h11 => intro w hSw; go_simp; with_reducible rfl
          simp only [List.setIfInBounds_toArray, List.set_cons_zero, List.set_cons_succ]
          refine' take_T (i := 12) (d := 53) (v := _) rfl rfl (by kernel_rfl) (by kernel_rfl) (by kernel_rfl) (by kernel_rfl) (by kernel_rfl) (fun _ _ _ h => h) (Or.inl ⟨by rfl, ?h12⟩) HSX.out ?_
          case h12 => intro w hSw; go_simp; with_reducible rfl
          simp only [List.setIfInBounds_toArray, List.set_cons_zero, List.set_cons_succ]
          refine wpAnyT_ready (rs := [1]) (by kernel_rfl) (by simp) ?_
          refine AllReadyT.cons (o := _) rfl (fun K hK => ?_) AllReadyT.nil
          go_simp
          obtain ⟨q0, hqq⟩ : ∃ z, z = wX.heap.size := ⟨_, rfl⟩
          rw [← hqq]
          have HB1 : Hid (Below wX.heap.size wX (wX.alloc (.cells #[] 5))) := (Below.refl _ wX).alloc (Nat.le_refl _) _
          have HO1 : Hid ((wX.alloc (.cells #[] 5)).ownsRow wX.heap.size 5 1 (.slice (some ⟨q0, 0, none⟩) 0 0) ([] : List UInt8).length (bc [])) := by rw [hqq]; exact World.ownsRow_made wX #[] 0 (Nat.le_refl _) (by decide) rfl
          clear hqq
          generalize wX.alloc (.cells #[] 5) = wY1 at *
          refine hK.out _ _ (fun _ => (HSB.out _ HB1.out)) ?_
          clear hK K
          refine wpAnyT_ready (rs := [13]) (by kernel_rfl) (by simp) ?_
          refine AllReadyT.cons (o := _) rfl (fun K hK => ?_) AllReadyT.nil
          refine wp_bs _ _ rfl wX.heap.size (.slice (some ⟨q0, 0, none⟩) 0 0) (.slice ab K7 cb) ([] : List UInt8) (f.b.take K7) wY1 rfl rfl HO1.out HB1.out.size ((HCD.out.2.cut (k := K7) hKle).below HB1.out) (by have := HP.out.2.2.1; simp only [List.length_nil, List.length_take]; omega) ?_
          intro v2 wY2 ho hg
          have HO2 : Hid (wY2.ownsRow wX.heap.size 5 1 v2 (f.b.take K7).length (bc (f.b.take K7))) := by
            have h : wY2.ownsRow wX.heap.size 5 1 v2 (f.b.take K7).length (bc (f.b.take K7)) := by simpa using ho
            exact h
          have HB2 : Hid (Below wX.heap.size wX wY2) := HB1.out.grown hg HB1.out.size (fun z hz => (HO1.out.lt z hz).1)
          obtain ⟨a2, m2, c2, rfl⟩ := slice_own ho
          have hm2 : K7 = m2 := by
            obtain ⟨a', n', c', hv, hn', _⟩ := Bs.own HO2.out
            simp only [Value.slice.injEq] at hv
            rw [hv.2.1, hn', List.length_take, ← HP.out.2.2.1]
            omega
          subst hm2
          clear ho hg
          go_simp
          refine hK.out _ _ (fun _ => (HSB.out _ HB2.out)) ?_
          clear hK K
          refine' take_T (i := 14) (d := 55) (v := _) rfl rfl (by kernel_rfl) (by kernel_rfl) (by kernel_rfl) (by kernel_rfl) (by kernel_rfl) (fun _ _ _ h => h) (Or.inl ⟨by rfl, ?h14⟩) (HSB.out _ HB2.out) ?_
          case h14 => intro w hSw; go_simp; with_reducible rfl
          simp only [List.setIfInBounds_toArray, List.set_cons_zero, List.set_cons_succ]
          refine' take_T (i := 15) (d := 56) (v := _) rfl rfl (by kernel_rfl) (by kernel_rfl) (by kernel_rfl) (by kernel_rfl) (by kernel_rfl) (fun _ _ _ h => h) (Or.inl ⟨by rfl, ?h15⟩) (HSB.out _ HB2.out) ?_
          case h15 => intro w hSw; go_simp; with_reducible rfl
          simp only [List.setIfInBounds_toArray, List.set_cons_zero, List.set_cons_succ]
          refine wpAnyT_ready (rs := [16]) (by kernel_rfl) (by simp) ?_
          refine AllReadyT.cons (o := _) rfl (fun K hK => ?_) AllReadyT.nil
          have hc := (HSB.out _ HB2.out).1
          have hz : wY2.frozen? ⟨g, k * 3 + 1, none⟩ = false := (World.frozen?_of_block (HB2.out.block g (World.block_lt_of_cell? wX _ HSX.out.1))).trans (HSX0.out.2.2 (k * 3 + 1))
          have HR2 : Hid (RefC (wY2.setCell ⟨g, k * 3 + 1, none⟩ (.slice a2 K7 c2)) q { st with off := true, fs := (ps'.set k ({ f with b := f.b.take K7 }, Value.slice a2 K7 c2)).map (·.1) } (Gx wX wY2 G') (.slice (some ⟨g, 0, none⟩) n cv) (ps'.set k ({ f with b := f.b.take K7 }, .slice a2 K7 c2)) ∧ Moved w (wY2.setCell ⟨g, k * 3 + 1, none⟩ (.slice a2 K7 c2)) G (Gx wX wY2 G')) := by
            obtain ⟨h1, h2⟩ := HCD.out.1.r.put (p' := ({ f with b := f.b.take K7 }, .slice a2 K7 c2)) (j := 1) (u := .slice a2 K7 c2) HP.out.2.2.2.2 HP.out.1 HB2.out (by decide) rfl (HO2.out.mono (show q + 1 ≤ wX.heap.size from HCD.out.1.r.lt)) (fun k hk => Or.inr (HO2.out.lt k hk).1)
            exact ⟨h1, HCD.out.1.m.trans h2⟩
          have HP2 : Hid ((ps'.set k ({ f with b := f.b.take K7 }, Value.slice a2 K7 c2))[k]? = some ({ f with b := f.b.take K7 }, .slice a2 K7 c2)) := by
            have h : (ps'.set k ({ f with b := f.b.take K7 }, Value.slice a2 K7 c2))[k]? = some ({ f with b := f.b.take K7 }, .slice a2 K7 c2) := by
              rw [List.getElem?_set, if_pos rfl, if_pos (by rw [← HP.out.2.2.2.2]; exact hlt)]
            exact h
          go_simp
          clear hc hz
          refine hK.out _ _ (fun h => absurd rfl h) ?_
          clear hK K
          refine wpAnyT_done (by kernel_rfl) ?_ _
          generalize wY2.setCell ⟨g, k * 3 + 1, none⟩ (.slice a2 K7 c2) = wz at *
          obtain ⟨g', cap', hv', _, _, _, f0, f1, f2, fz⟩ := HR2.out.1.fo.cell HP2.out
          simp only [Value.slice.injEq, Option.some.injEq, Addr.mk.injEq, and_true] at hv'
          obtain ⟨rfl, hq2, rfl⟩ := hv'
          simp only [] at f0 f1 f2
          have fz2 := fz (k * 3 + 2)
          clear fz hq2
          have HC2 : Hid (∃ G2, CrS w (wz.setCell ⟨g, k * 3 + 2, none⟩ (.int .i64 ((K7 : Nat) : Int))) q { st with off := true, fs := Dq.crs (M : Int) (k + 1) st.fs } G G2 (.slice (some ⟨g, 0, none⟩) n cv) (ps'.set k (Dq.cr (M : Int) f, .slice a2 K7 c2))) := by
            have hn : n = (ps'.set k ({ f with b := f.b.take K7 }, Value.slice a2 K7 c2)).length := by rw [List.length_set]; exact HP.out.2.2.2.2
            obtain ⟨h1, h2⟩ := HR2.out.1.put (p' := (Dq.cr (M : Int) f, .slice a2 K7 c2)) (j := 2) (u := .int .i64 ((K7 : Nat) : Int)) hn HP2.out (Below.refl _ _) (by decide) (by unfold Dq.cr; rw [← HKP.out]; rfl) (by have h := HR2.out.1.fo.bytes _ (List.mem_of_getElem? HP2.out); unfold Dq.cr; rw [← HKP.out]; exact h) (fun k hk => Or.inl (by have h := HR2.out.1.gb _ (List.mem_of_getElem? HP2.out) k hk; exact h))
            rw [List.set_set] at h1
            refine ⟨_, h1.as ?_, HR2.out.2.trans h2⟩
            have hfs := HCD.out.1.r.fs
            simp only [] at hfs
            simp only [List.map_set, hfs]
            rw [crs_set HP.out.2.1]
          go_wp2
          clear f0 f1 f2 fz2
          generalize wz.setCell ⟨g, k * 3 + 2, none⟩ (.int .i64 ((K7 : Nat) : Int)) = wq at *
          obtain ⟨G2, hC2⟩ := HC2.out
          go_roundw
          case rel => exact ⟨k + 1, G2, _, by omega, by go_num, hC2⟩
          case measure => simp [intOf]; omega
      · have h3 : ¬ (nb : Int) - (sf : Int) < 0 := by omega
        go_wp2
        go_quiet (fail)
        have HCD : Hid (CrS w ((wr.drewN nq).drew) q { st with off := true, fs := Dq.crs keep k st.fs } G G' (.slice (some ⟨g, 0, none⟩) n cv) ps' ∧ Bs ((wr.drewN nq).drew) (.slice ab nb cb) f.b) := ⟨⟨HC.out.r.below (below_drewN (Below.refl _ _) _).drew, HC.out.m.trans (Moved.of_below _ (below_drewN (Below.refl _ _) _).drew)⟩, HP.out.2.2.2.1.below (below_drewN (Below.refl _ _) _).drew⟩
        have HSX0 : Hid (((wr.drewN nq).drew).cell? ⟨g, k * 3 + 1, none⟩ = some (.slice ab nb cb) ∧ ((wr.drewN nq).drew).cell? ⟨g, k * 3 + 2, none⟩ = some (.int .i64 (sf : Int)) ∧ ∀ j : Nat, ((wr.drewN nq).drew).frozen? ⟨g, j, none⟩ = false) := ⟨f1, f2, HFZ.out⟩
        clear hc1 f0 f1 f2 hsub
        obtain ⟨K7, hKe⟩ : ∃ z : Nat, z = nb := ⟨_, rfl⟩
        have hKle : K7 ≤ nb := by omega
        have hadd : IntKind.wrap .i64 ((sf : Int) + ((nb : Int) - (sf : Int))) = (K7 : Int) := by rw [IntKind.wrap_i64]; omega
        have hadd2 : IntKind.wrap .i64 (nb : Int) = (K7 : Int) := by rw [IntKind.wrap_i64]; omega
        have hK1 : (0 : Int) ≤ (K7 : Int) := by omega
        have hK2 : (K7 : Int) ≤ (cb : Int) := by omega
        have HKP : Hid (K7 = Dq.kept f keep) := by
          have h : K7 = Dq.kept f keep := by unfold Dq.kept; rw [← HSF.out, ← HP.out.2.2.1]; omega
          exact h
        clear hKe
        go_wp2_with fail
        refine wp_region_T (fun w' => w'.cell? ⟨g, k * 3 + 1, none⟩ = some (.slice ab nb cb) ∧ w'.cell? ⟨g, k * 3 + 2, none⟩ = some (.int .i64 (sf : Int))) 16 (by kernel_rfl) ?_
        generalize (wr.drewN nq).drew = wX at *
        have HSB : Hid (∀ w', Below wX.heap.size wX w' → w'.cell? ⟨g, k * 3 + 1, none⟩ = some (.slice ab nb cb) ∧ w'.cell? ⟨g, k * 3 + 2, none⟩ = some (.int .i64 (sf : Int))) := fun w' hb => ⟨Below.kept hb HSX0.out.1, Below.kept hb HSX0.out.2.1⟩
        have HSX : Hid (wX.cell? ⟨g, k * 3 + 1, none⟩ = some (.slice ab nb cb) ∧ wX.cell? ⟨g, k * 3 + 2, none⟩ = some (.int .i64 (sf : Int))) := HSB.out _ (Below.refl _ _)
        refine' take_T (i := 0) (d := 41) (v := _) rfl rfl (by kernel_rfl) (by kernel_rfl) (by kernel_rfl) (by kernel_rfl) (by kernel_rfl) (fun _ _ _ h => h) (Or.inl ⟨by rfl, ?h0⟩) HSX.out ?_
        case h0 => intro w hSw; go_simp; with_reducible rfl
        simp only [List.setIfInBounds_toArray, List.set_cons_zero, List.set_cons_succ]
        refine' take_T (i := 2) (d := 43) (v := _) rfl rfl (by kernel_rfl) (by kernel_rfl) (by kernel_rfl) (by kernel_rfl) (by kernel_rfl) (fun _ _ _ h => h) (Or.inl ⟨by rfl, ?h2⟩) HSX.out ?_
        case h2 => intro w hSw; go_simp; with_reducible rfl
        simp only [List.setIfInBounds_toArray, List.set_cons_zero, List.set_cons_succ]
        refine' take_T (i := 3) (d := 44) (v := _) rfl rfl (by kernel_rfl) (by kernel_rfl) (by kernel_rfl) (by kernel_rfl) (by kernel_rfl) (fun _ _ _ h => h) (Or.inl ⟨by rfl, ?h3⟩) HSX.out ?_
        case h3 => intro w hSw; go_simp; with_reducible rfl
        simp only [List.setIfInBounds_toArray, List.set_cons_zero, List.set_cons_succ]
        refine' take_T (i := 4) (d := 45) (v := _) rfl rfl (by kernel_rfl) (by kernel_rfl) (by kernel_rfl) (by kernel_rfl) (by kernel_rfl) (fun _ _ _ h => h) (Or.inl ⟨by rfl, ?h4⟩) HSX.out ?_
        case h4 => intro w hSw; go_simp; with_reducible rfl
        simp only [List.setIfInBounds_toArray, List.set_cons_zero, List.set_cons_succ]
        refine' take_T (i := 5) (d := 46) (v := _) rfl rfl (by kernel_rfl) (by kernel_rfl) (by kernel_rfl) (by kernel_rfl) (by kernel_rfl) (fun _ _ _ h => h) (Or.inl ⟨by rfl, ?h5⟩) HSX.out ?_
        case h5 => intro w hSw; obtain ⟨hs1, hs2⟩ := hSw; go_simp; with_reducible rfl
        simp only [List.setIfInBounds_toArray, List.set_cons_zero, List.set_cons_succ]
        refine' take_T (i := 6) (d := 47) (v := _) rfl rfl (by kernel_rfl) (by kernel_rfl) (by kernel_rfl) (by kernel_rfl) (by kernel_rfl) (fun _ _ _ h => h) (Or.inl ⟨by rfl, ?h6⟩) HSX.out ?_
        case h6 => intro w hSw; go_simp; with_reducible rfl
        simp only [List.setIfInBounds_toArray, List.set_cons_zero, List.set_cons_succ]
        refine' take_T (i := 7) (d := 48) (v := _) rfl rfl (by kernel_rfl) (by kernel_rfl) (by kernel_rfl) (by kernel_rfl) (by kernel_rfl) (fun _ _ _ h => h) (Or.inl ⟨by rfl, ?h7⟩) HSX.out ?_
        case h7 => intro w hSw; go_simp; with_reducible rfl
        simp only [List.setIfInBounds_toArray, List.set_cons_zero, List.set_cons_succ]
        refine' take_T (i := 8) (d := 49) (v := _) rfl rfl (by kernel_rfl) (by kernel_rfl) (by kernel_rfl) (by kernel_rfl) (by kernel_rfl) (fun _ _ _ h => h) (Or.inl ⟨by rfl, ?h8⟩) HSX.out ?_
        case h8 => intro w hSw; go_simp; with_reducible rfl
        simp only [List.setIfInBounds_toArray, List.set_cons_zero, List.set_cons_succ]
        refine' take_T (i := 9) (d := 50) (v := _) rfl rfl (by kernel_rfl) (by kernel_rfl) (by kernel_rfl) (by kernel_rfl) (by kernel_rfl) (fun _ _ _ h => h) (Or.inl ⟨by rfl, ?h9⟩) HSX.out ?_
        case h9 => intro w hSw; obtain ⟨hs1, hs2⟩ := hSw; go_simp; with_reducible rfl
        simp only [List.setIfInBounds_toArray, List.set_cons_zero, List.set_cons_succ]
        refine' take_T (i := 10) (d := 51) (v := _) rfl rfl (by kernel_rfl) (by kernel_rfl) (by kernel_rfl) (by kernel_rfl) (by kernel_rfl) (fun _ _ _ h => h) (Or.inl ⟨by rfl, ?h10⟩) HSX.out ?_
        case h10 => intro w hSw; go_simp; with_reducible rfl
        simp only [List.setIfInBounds_toArray, List.set_cons_zero, List.set_cons_succ]
        refine' take_T (i := 11) (d := 52) (v := _) rfl rfl (by kernel_rfl) (by kernel_rfl) (by kernel_rfl) (by kernel_rfl) (by kernel_rfl) (fun _ _ _ h => h) (Or.inl ⟨by rfl, ?h11⟩) HSX.out ?_
        case h11 => intro w hSw; go_simp; with_reducible rfl
        simp only [List.setIfInBounds_toArray, List.set_cons_zero, List.set_cons_succ]
        refine' take_T (i := 12) (d := 53) (v := _) rfl rfl (by kernel_rfl) (by kernel_rfl) (by kernel_rfl) (by kernel_rfl) (by kernel_rfl) (fun _ _ _ h => h) (Or.inl ⟨by rfl, ?h12⟩) HSX.out ?_
        case h12 => intro w hSw; go_simp; with_reducible rfl
        simp only [List.setIfInBounds_toArray, List.set_cons_zero, List.set_cons_succ]
        refine wpAnyT_ready (rs := [1]) (by kernel_rfl) (by simp) ?_
        refine AllReadyT.cons (o := _) rfl (fun K hK => ?_) AllReadyT.nil
        go_simp
        obtain ⟨q0, hqq⟩ : ∃ z, z = wX.heap.size := ⟨_, rfl⟩
        rw [← hqq]
        have HB1 : Hid (Below wX.heap.size wX (wX.alloc (.cells #[] 5))) := (Below.refl _ wX).alloc (Nat.le_refl _) _
        have HO1 : Hid ((wX.alloc (.cells #[] 5)).ownsRow wX.heap.size 5 1 (.slice (some ⟨q0, 0, none⟩) 0 0) ([] : List UInt8).length (bc [])) := by rw [hqq]; exact World.ownsRow_made wX #[] 0 (Nat.le_refl _) (by decide) rfl
        clear hqq
        generalize wX.alloc (.cells #[] 5) = wY1 at *
        refine hK.out _ _ (fun _ => (HSB.out _ HB1.out)) ?_
        clear hK K
        refine wpAnyT_ready (rs := [13]) (by kernel_rfl) (by simp) ?_
        refine AllReadyT.cons (o := _) rfl (fun K hK => ?_) AllReadyT.nil
        refine wp_bs _ _ rfl wX.heap.size (.slice (some ⟨q0, 0, none⟩) 0 0) (.slice ab K7 cb) ([] : List UInt8) (f.b.take K7) wY1 rfl rfl HO1.out HB1.out.size ((HCD.out.2.cut (k := K7) hKle).below HB1.out) (by have := HP.out.2.2.1; simp only [List.length_nil, List.length_take]; omega) ?_
        intro v2 wY2 ho hg
        have HO2 : Hid (wY2.ownsRow wX.heap.size 5 1 v2 (f.b.take K7).length (bc (f.b.take K7))) := by
          have h : wY2.ownsRow wX.heap.size 5 1 v2 (f.b.take K7).length (bc (f.b.take K7)) := by simpa using ho
          exact h
        have HB2 : Hid (Below wX.heap.size wX wY2) := HB1.out.grown hg HB1.out.size (fun z hz => (HO1.out.lt z hz).1)
        obtain ⟨a2, m2, c2, rfl⟩ := slice_own ho
        have hm2 : K7 = m2 := by
          obtain ⟨a', n', c', hv, hn', _⟩ := Bs.own HO2.out
          simp only [Value.slice.injEq] at hv
          rw [hv.2.1, hn', List.length_take, ← HP.out.2.2.1]
          omega
        subst hm2
        clear ho hg
        go_simp
        refine hK.out _ _ (fun _ => (HSB.out _ HB2.out)) ?_
        clear hK K
        refine' take_T (i := 14) (d := 55) (v := _) rfl rfl (by kernel_rfl) (by kernel_rfl) (by kernel_rfl) (by kernel_rfl) (by kernel_rfl) (fun _ _ _ h => h) (Or.inl ⟨by rfl, ?h14⟩) (HSB.out _ HB2.out) ?_
        case h14 => intro w hSw; go_simp; with_reducible rfl
        simp only [List.setIfInBounds_toArray, List.set_cons_zero, List.set_cons_succ]
        refine' take_T (i := 15) (d := 56) (v := _) rfl rfl (by kernel_rfl) (by kernel_rfl) (by kernel_rfl) (by kernel_rfl) (by kernel_rfl) (fun _ _ _ h => h) (Or.inl ⟨by rfl, ?h15⟩) (HSB.out _ HB2.out) ?_
        case h15 => intro w hSw; go_simp; with_reducible rfl
        simp only [List.setIfInBounds_toArray, List.set_cons_zero, List.set_cons_succ]
        refine wpAnyT_ready (rs := [16]) (by kernel_rfl) (by simp) ?_
        refine AllReadyT.cons (o := _) rfl (fun K hK => ?_) AllReadyT.nil
        have hc := (HSB.out _ HB2.out).1
        have hz : wY2.frozen? ⟨g, k * 3 + 1, none⟩ = false := (World.frozen?_of_block (HB2.out.block g (World.block_lt_of_cell? wX _ HSX.out.1))).trans (HSX0.out.2.2 (k * 3 + 1))
        have HR2 : Hid (RefC (wY2.setCell ⟨g, k * 3 + 1, none⟩ (.slice a2 K7 c2)) q { st with off := true, fs := (ps'.set k ({ f with b := f.b.take K7 }, Value.slice a2 K7 c2)).map (·.1) } (Gx wX wY2 G') (.slice (some ⟨g, 0, none⟩) n cv) (ps'.set k ({ f with b := f.b.take K7 }, .slice a2 K7 c2)) ∧ Moved w (wY2.setCell ⟨g, k * 3 + 1, none⟩ (.slice a2 K7 c2)) G (Gx wX wY2 G')) := by
          obtain ⟨h1, h2⟩ := HCD.out.1.r.put (p' := ({ f with b := f.b.take K7 }, .slice a2 K7 c2)) (j := 1) (u := .slice a2 K7 c2) HP.out.2.2.2.2 HP.out.1 HB2.out (by decide) rfl (HO2.out.mono (show q + 1 ≤ wX.heap.size from HCD.out.1.r.lt)) (fun k hk => Or.inr (HO2.out.lt k hk).1)
          exact ⟨h1, HCD.out.1.m.trans h2⟩
        have HP2 : Hid ((ps'.set k ({ f with b := f.b.take K7 }, Value.slice a2 K7 c2))[k]? = some ({ f with b := f.b.take K7 }, .slice a2 K7 c2)) := by
          have h : (ps'.set k ({ f with b := f.b.take K7 }, Value.slice a2 K7 c2))[k]? = some ({ f with b := f.b.take K7 }, .slice a2 K7 c2) := by
            rw [List.getElem?_set, if_pos rfl, if_pos (by rw [← HP.out.2.2.2.2]; exact hlt)]
          exact h
        go_simp
        clear hc hz
        refine hK.out _ _ (fun h => absurd rfl h) ?_
        clear hK K
        refine wpAnyT_done (by kernel_rfl) ?_ _
        generalize wY2.setCell ⟨g, k * 3 + 1, none⟩ (.slice a2 K7 c2) = wz at *
        obtain ⟨g', cap', hv', _, _, _, f0, f1, f2, fz⟩ := HR2.out.1.fo.cell HP2.out
        simp only [Value.slice.injEq, Option.some.injEq, Addr.mk.injEq, and_true] at hv'
        obtain ⟨rfl, hq2, rfl⟩ := hv'
        simp only [] at f0 f1 f2
        have fz2 := fz (k * 3 + 2)
        clear fz hq2
        have HC2 : Hid (∃ G2, CrS w (wz.setCell ⟨g, k * 3 + 2, none⟩ (.int .i64 ((K7 : Nat) : Int))) q { st with off := true, fs := Dq.crs keep (k + 1) st.fs } G G2 (.slice (some ⟨g, 0, none⟩) n cv) (ps'.set k (Dq.cr keep f, .slice a2 K7 c2))) := by
          have hn : n = (ps'.set k ({ f with b := f.b.take K7 }, Value.slice a2 K7 c2)).length := by rw [List.length_set]; exact HP.out.2.2.2.2
          obtain ⟨h1, h2⟩ := HR2.out.1.put (p' := (Dq.cr keep f, .slice a2 K7 c2)) (j := 2) (u := .int .i64 ((K7 : Nat) : Int)) hn HP2.out (Below.refl _ _) (by decide) (by unfold Dq.cr; rw [← HKP.out]; rfl) (by have h := HR2.out.1.fo.bytes _ (List.mem_of_getElem? HP2.out); unfold Dq.cr; rw [← HKP.out]; exact h) (fun k hk => Or.inl (by have h := HR2.out.1.gb _ (List.mem_of_getElem? HP2.out) k hk; exact h))
          rw [List.set_set] at h1
          refine ⟨_, h1.as ?_, HR2.out.2.trans h2⟩
          have hfs := HCD.out.1.r.fs
          simp only [] at hfs
          simp only [List.map_set, hfs]
          rw [crs_set HP.out.2.1]
        go_wp2
        clear f0 f1 f2 fz2
        generalize wz.setCell ⟨g, k * 3 + 2, none⟩ (.int .i64 ((K7 : Nat) : Int)) = wq at *
        obtain ⟨G2, hC2⟩ := HC2.out
        go_roundw
        case rel => exact ⟨k + 1, G2, _, by omega, by go_num, hC2⟩
        case measure => simp [intOf]; omega
    · have hlt' : ¬ (k : Int) < (n : Int) := by omega
      obtain rfl : k = n := by omega
      go_wp2
      go_end0
      rw [HFF.out]
      exact ⟨rfl, _, _, _, HC.out.r, HC.out.m⟩
end Go.Proofs.Ytphmmdjefpfehaa
