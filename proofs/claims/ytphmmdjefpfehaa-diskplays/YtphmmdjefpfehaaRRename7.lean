/- What the reference's Rename answers. -/
import Derived.Test.YtphmmdjefpfehaaROps7
namespace Go.Proofs.Ytphmmdjefpfehaa
open Go.RowKit

/-- What a Rename has under way: the file in its box, its bytes; the disk. -/
structure RenS (w wr : World) (q qf : Nat) (st : Dq.St) (G G' : Nat → Prop) (v : Value) (ps : List (Dq.Fl × Value)) (f : Dq.Fl) (bv : Value) : Prop where
  r : RefC wr q st G' v ps
  box : BoxF wr qf (f, bv)
  fz : ∀ j : Nat, wr.frozen? ⟨qf, j, none⟩ = false
  own : wr.ownsRow (q + 1) 5 1 bv f.b.length (bc f.b)
  hq : q < qf
  h0 : w.heap.size ≤ qf
  gb : ∀ k, bv.ownBlock = some k → G' k
  g0 : ∀ k, bv.ownBlock = some k → G k
  hf : ¬ G' qf
  m : Moved w wr G G'

theorem RenS.step {w wr w' : World} {q qf : Nat} {st st2 : Dq.St} {G G' G2 : Nat → Prop} {v v2 : Value} {ps ps2 : List (Dq.Fl × Value)} {f : Dq.Fl} {bv : Value} (h : RenS w wr q qf st G G' v ps f bv) (hr : RefC w' q st2 G2 v2 ps2) (hm : Moved wr w' G' G2) (hg : wr.grownBy w' (some q)) : ∃ G3, RenS w w' q qf st2 G G3 v2 ps2 f bv := by
  have hq := h.hq
  have hlt := World.block_lt_of_cell? wr _ h.box.c0
  have hb := hg.block qf hlt (by simp; omega)
  have ho := h.own.kept hg (Or.inr fun e => by have := (h.own.lt q e).1; omega)
  have hn : ∀ k, (G2 k ∨ bv.ownBlock = some k) → G' k ∨ wr.heap.size ≤ k := fun k hk => by
    rcases hk with hk | hk
    · exact hm.sub k hk
    · exact Or.inl (h.gb k hk)
  refine ⟨fun k => G2 k ∨ bv.ownBlock = some k, hr.more (fun k hk => Or.inl hk) (fun k hk => ?_), h.box.grown hg (by omega), fun j => (World.frozen?_of_block hb).trans (h.fz j), ho, h.hq, h.h0, fun k hk => Or.inr hk, h.g0, fun hk => ?_, h.m.trans ⟨hm.os, hm.tape, hm.output, hm.size, hm.block, hn⟩⟩
  · rcases hk with hk | hk
    · exact hr.glt k hk
    · exact (ho.lt k hk).2
  · rcases hn qf hk with h1 | h1
    · exact h.hf h1
    · simp only [] at hlt
      omega

set_option maxRecDepth 20000 in
set_option maxHeartbeats 8000000 in
theorem refRename_any (q : Nat) (st : Dq.St) (G : Nat → Prop) (v : Value) (ps : List (Dq.Fl × Value)) (s t : ByteArray) (w : World) (hR : RefC w q st G v ps) (hf : Fine st) (hs : s.size ≤ 9223372036854775807) (ht : t.size ≤ 9223372036854775807) :
    Calls Try.prog 24 #[dptr q, .string s, .string t] w fun e w' => e = .returned (.int .i64 (Dq.rename st s t).1) ∧ RefPost w q (Dq.rename st s t).2 G w' := by
  have HR : Hid (RefC w q st G v ps ∧ Fine st) := ⟨hR, hf⟩
  have hc2 := hR.c2
  cases hoff : st.off with
  | true =>
    have HX : Hid (Dq.rename st s t = (10, st)) := by
      have h : Dq.rename st s t = (10, st) := by unfold Dq.rename; rw [hoff]; rfl
      exact h
    rw [HX.out]
    rw [hoff] at hc2
    clear hR hf hoff
    go_enter Try.func24, Try.ntmps24
    go_wp2
    go_ret
    exact ⟨rfl, _, _, _, HR.out.1, Moved.refl _ _⟩
  | false =>
  rw [hoff] at hc2
  cases hms : Dq.may s with
  | false =>
    have HX : Hid (Dq.rename st s t = (1, st)) := by
      have h : Dq.rename st s t = (1, st) := by unfold Dq.rename; rw [hoff, hms]; simp
      exact h
    rw [HX.out]
    have HM : Hid (Dq.may s = false) := hms
    clear hR hf hoff hms
    go_enter Try.func24, Try.ntmps24
    go_wp2_with fail
    refine (may_any s _ hs).mono ?_
    rintro e w1 ⟨rfl, hw⟩
    rw [hw, HM.out]
    clear hw
    go_wp2
    go_ret
    exact ⟨rfl, _, _, _, HR.out.1, Moved.refl _ _⟩
  | true =>
  cases hmt : Dq.may t with
  | false =>
    have HX : Hid (Dq.rename st s t = (1, st)) := by
      have h : Dq.rename st s t = (1, st) := by unfold Dq.rename; rw [hoff, hms, hmt]; simp
      exact h
    rw [HX.out]
    have HM : Hid (Dq.may s = true ∧ Dq.may t = false) := ⟨hms, hmt⟩
    clear hR hf hoff hms hmt
    go_enter Try.func24, Try.ntmps24
    go_wp2_with fail
    refine (may_any s _ hs).mono ?_
    rintro e w1 ⟨rfl, hw⟩
    rw [hw, HM.out.1]
    clear hw
    go_wp2_with fail
    refine (may_any t _ ht).mono ?_
    rintro e w1 ⟨rfl, hw⟩
    rw [hw, HM.out.2]
    clear hw
    go_wp2
    go_ret
    exact ⟨rfl, _, _, _, HR.out.1, Moved.refl _ _⟩
  | true =>
  have HM : Hid (Dq.may s = true ∧ Dq.may t = true) := ⟨hms, hmt⟩
  cases hg : Dq.get s st.fs with
  | none =>
    have HX : Hid (Dq.rename st s t = (4, st)) := by
      have h : Dq.rename st s t = (4, st) := by unfold Dq.rename; rw [hoff, hms, hmt, hg]; simp
      exact h
    rw [HX.out]
    have HA : Hid (Dq.at_ s st.fs = -1) := (Dq.at_none hg).1
    clear hR hf hoff hms hmt hg
    go_enter Try.func24, Try.ntmps24
    go_wp2_with fail
    refine (may_any s _ hs).mono ?_
    rintro e w1 ⟨rfl, hw⟩
    rw [hw, HM.out.1]
    clear hw
    go_wp2_with fail
    refine (may_any t _ ht).mono ?_
    rintro e w1 ⟨rfl, hw⟩
    rw [hw, HM.out.2]
    clear hw
    go_wp2_with fail
    refine (find_any q st G v ps s _ HR.out.1 (by have := HR.out.2.2.1; omega)).mono ?_
    rintro e w1 ⟨rfl, hw⟩
    rw [hw, HA.out]
    clear hw
    go_wp2
    go_ret
    exact ⟨rfl, _, _, _, HR.out.1, Moved.refl _ _⟩
  | some f =>
    obtain ⟨i, g, n, cap, nb, cb, ab, rfl, hpk⟩ := hR.pick hf.1.rises (by have := hf.2.1; omega) hg
    have HK : Hid (Picked w q st G ps s f i g n cap nb cb ab) := hpk
    have hi1 : (0 : Int) ≤ (i : Int) := by omega
    have hi2 : (i : Int) < (n : Int) := by have := hpk.lt; omega
    have hi3 : ¬ (i : Int) < 0 := by omega
    cases hst : (s.toList == t.toList) with
    | true =>
      have HX : Hid (Dq.rename st s t = (0, st)) := by
        have h : Dq.rename st s t = (0, st) := by unfold Dq.rename; rw [hoff, hms, hmt, hg]; simp [bytes_eq hst]
        exact h
      rw [HX.out]
      clear hR hf hoff hms hmt hg hpk
      go_enter Try.func24, Try.ntmps24
      go_wp2_with fail
      refine (may_any s _ hs).mono ?_
      rintro e w1 ⟨rfl, hw⟩
      rw [hw, HM.out.1]
      clear hw
      go_wp2_with fail
      refine (may_any t _ ht).mono ?_
      rintro e w1 ⟨rfl, hw⟩
      rw [hw, HM.out.2]
      clear hw
      go_wp2_with fail
      refine (find_any q st G _ ps s _ HR.out.1 (by have := HR.out.2.2.1; omega)).mono ?_
      rintro e w1 ⟨rfl, hw⟩
      rw [hw, HK.out.at_]
      clear hw
      go_wp2
      go_ret
      exact ⟨rfl, _, _, _, HR.out.1, Moved.refl _ _⟩
    | false =>
      have hne : s ≠ t := fun e => by rw [e] at hst; simp at hst
      have HX : Hid (Dq.rename st s t = (0, { st with fs := Dq.lay { f with name := t } (Dq.del t (Dq.del s st.fs)) })) := by
        have h : Dq.rename st s t = (0, { st with fs := Dq.lay { f with name := t } (Dq.del t (Dq.del s st.fs)) }) := by unfold Dq.rename; rw [hoff, hms, hmt, hg]; simp [hne]
        exact h
      rw [HX.out]
      obtain ⟨fsN, hFS⟩ : ∃ z, z = Dq.lay { f with name := t } (Dq.del t (Dq.del s st.fs)) := ⟨_, rfl⟩
      have HFS : Hid (fsN = Dq.lay { f with name := t } (Dq.del t (Dq.del s st.fs))) := hFS
      simp only [← hFS]
      clear hFS
      have HRI : Hid (Dq.Rises (Dq.del s st.fs)) := Dq.rises_del hf.1.rises
      clear hR hf hoff hms hmt hg hpk hne
      have hc1 := HR.out.1.c1
      obtain ⟨f0, f1, f2⟩ : w.cell? ⟨g, i * 3, none⟩ = some (.string f.name) ∧ w.cell? ⟨g, i * 3 + 1, none⟩ = some (.slice ab nb cb) ∧ w.cell? ⟨g, i * 3 + 2, none⟩ = some (.int .i64 (f.safe : Int)) := ⟨HK.out.f0, HK.out.f1, HK.out.f2⟩
      obtain ⟨qf, hqf⟩ : ∃ z, z = w.heap.size := ⟨_, rfl⟩
      have HS1 : Hid (RenS w (w.alloc (.cells #[.string f.name, .slice ab nb cb, .int .i64 (f.safe : Int)] 47)) q qf st G G (.slice (some ⟨g, 0, none⟩) n cap) ps f (.slice ab nb cb)) := by
        have hb : Below w.heap.size w (w.alloc (.cells #[.string f.name, .slice ab nb cb, .int .i64 (f.safe : Int)] 47)) := (Below.refl _ w).alloc (Nat.le_refl _) _
        refine ⟨HR.out.1.below hb, by rw [hqf]; exact BoxF.made w (f, .slice ab nb cb) _, fun j => by rw [hqf]; simp, (HK.out.below hb).own, by rw [hqf]; exact HR.out.1.lt, by rw [hqf]; exact Nat.le_refl _, HR.out.1.gb _ (List.mem_of_getElem? HK.out.p), HR.out.1.gb _ (List.mem_of_getElem? HK.out.p), fun h => by have := HR.out.1.glt qf h; omega, Moved.of_below G hb⟩
      go_enter Try.func24, Try.ntmps24
      go_wp2_with fail
      refine (may_any s _ hs).mono ?_
      rintro e w1 ⟨rfl, hw⟩
      rw [hw, HM.out.1]
      clear hw
      go_wp2_with fail
      refine (may_any t _ ht).mono ?_
      rintro e w1 ⟨rfl, hw⟩
      rw [hw, HM.out.2]
      clear hw
      go_wp2_with fail
      refine (find_any q st G _ ps s _ HR.out.1 (by have := HR.out.2.2.1; omega)).mono ?_
      rintro e w1 ⟨rfl, hw⟩
      rw [hw, HK.out.at_]
      clear hw
      go_wp2_with fail
      rw [← hqf]
      clear hqf hc1 f0 f1 f2 hst
      generalize w.alloc (.cells #[.string f.name, .slice ab nb cb, .int .i64 (f.safe : Int)] 47) = wA at *
      refine (remove_any q i st G _ ps _ HS1.out.r (by rw [← HK.out.en]; exact HK.out.lt) (by have := HR.out.2.2.1; omega)).mono ?_
      rintro e wB ⟨G1, v1, rfl, hr, hm, hg⟩
      have hr2 := hr.as (st' := { st with fs := Dq.del s st.fs }) (by rw [HK.out.del, ← HR.out.1.fs]; simp [List.map_take, List.map_drop])
      obtain ⟨G2, hS2⟩ := HS1.out.step hr2 hm hg
      obtain ⟨ps1, hps1⟩ : ∃ z, z = ps.take i ++ ps.drop (i + 1) := ⟨_, rfl⟩
      rw [← hps1] at hS2
      have HS2 : Hid (RenS w wB q qf { st with fs := Dq.del s st.fs } G G2 v1 ps1 f (.slice ab nb cb)) := hS2
      clear hr hr2 hm hg hS2 hps1
      have HLN : Hid ((Dq.del s st.fs).length ≤ 1000) := by
        have h : (Dq.del s st.fs).length ≤ 1000 := Nat.le_trans (Dq.len_del s st.fs) HR.out.2.2.1
        exact h
      go_wp2_with fail
      refine (find_any q _ G2 v1 ps1 t _ HS2.out.r (by have := HLN.out; simp only []; omega)).mono ?_
      rintro e w1 ⟨rfl, hw⟩
      rw [hw]
      clear hw
      simp only []
      cases hg2 : Dq.get t (Dq.del s st.fs) with
      | none =>
        have HA : Hid (Dq.at_ t (Dq.del s st.fs) = -1 ∧ Dq.del t (Dq.del s st.fs) = Dq.del s st.fs) := ⟨(Dq.at_none hg2).1, Dq.del_none (Dq.get_none hg2)⟩
        rw [HA.out.1]
        clear hg2
        have HS3 : Hid (RenS w wB q qf { st with fs := Dq.del t (Dq.del s st.fs) } G G2 v1 ps1 f (.slice ab nb cb)) := by
          rw [HA.out.2]
          exact HS2.out
        have hx0 := HS3.out.box.c0
        have hx1 := HS3.out.box.c1
        have hx2 := HS3.out.box.c2
        have hz0 := HS3.out.fz 0
        simp only [] at hx0 hx1 hx2
        have HS4 : Hid (RefC (wB.setCell ⟨qf, 0, none⟩ (.string t)) q { st with fs := Dq.del t (Dq.del s st.fs) } G2 v1 ps1 ∧ (wB.setCell ⟨qf, 0, none⟩ (.string t)).ownsRow (q + 1) 5 1 (.slice ab nb cb) f.b.length (bc f.b) ∧ Moved w (wB.setCell ⟨qf, 0, none⟩ (.string t)) G G2 ∧ ∀ k, (Value.slice ab nb cb).ownBlock = some k → G2 k) := by
          have hset := grownBy_setCell wB ⟨qf, 0, none⟩ (.string t)
          refine ⟨HS3.out.r.keep hset.size (fun k hk => hset.block k (HS3.out.r.glt k hk) (by simp; intro e; subst e; exact HS3.out.hf hk)), HS3.out.own.kept hset (Or.inr fun e => HS3.out.hf (HS3.out.gb qf e)), ⟨hset.os.trans HS3.out.m.os, hset.tape.trans HS3.out.m.tape, hset.output.trans HS3.out.m.output, Nat.le_trans HS3.out.m.size hset.size, fun k hk hG => ?_, HS3.out.m.sub⟩, HS3.out.gb⟩
          have h1 := HS3.out.m.size
          have h2 := HS3.out.h0
          exact (hset.block k (by omega) (by simp; omega)).trans (HS3.out.m.block k hk hG)
        have HL4 : Hid ((Dq.del t (Dq.del s st.fs)).length ≤ 1000) := by
          have h : (Dq.del t (Dq.del s st.fs)).length ≤ 1000 := Nat.le_trans (Dq.len_del t _) HLN.out
          exact h
        go_wp2_with fail
        clear hx0 hx1 hx2 hz0
        generalize wB.setCell ⟨qf, 0, none⟩ (.string t) = wD at *
        refine (refLay_any q _ G2 v1 ps1 { f with name := t } (.slice ab nb cb) _ HS4.out.1 (by have := HL4.out; simp only []; omega) HS4.out.2.1 HS4.out.2.2.2).mono ?_
        rintro e wE ⟨G5, v5, ps5, rfl, hr, hm⟩
        have HFIN : Hid (RefPost w q { st with fs := fsN } G wE) := by
          rw [HFS.out]
          exact ⟨_, _, _, hr, HS4.out.2.2.1.trans hm⟩
        clear hr hm
        go_wp2
        go_ret
        exact ⟨rfl, HFIN.out⟩
      | some f2 =>
        obtain ⟨k, hk1, _, hk2⟩ := Dq.at_some hg2
        obtain ⟨bv2, hp2⟩ := HS2.out.r.fileOf hk2
        have HKK : Hid (Dq.at_ t (Dq.del s st.fs) = (k : Int) ∧ k < ps1.length ∧ (ps1.take k ++ ps1.drop (k + 1)).map (·.1) = Dq.del t (Dq.del s st.fs)) := by
          refine ⟨hk1, (List.getElem?_eq_some_iff.1 hp2).1, ?_⟩
          have h := HS2.out.r.fs
          simp only [] at h
          rw [Dq.del_at HRI.out hk2 (Dq.get_some hg2).2, ← h]
          simp [List.map_take, List.map_drop]
        rw [HKK.out.1]
        have hk0 : (0 : Int) ≤ (k : Int) := by omega
        clear hg2 hk1 hk2 hp2
        go_wp2_with fail
        refine (remove_any q k _ G2 v1 ps1 _ HS2.out.r HKK.out.2.1 (by have := HLN.out; simp only []; omega)).mono ?_
        rintro e wC ⟨G3, v2, rfl, hr, hm, hg⟩
        have hr2 := hr.as (st' := { st with fs := Dq.del t (Dq.del s st.fs) }) (by rw [HKK.out.2.2])
        obtain ⟨G4, hS3⟩ := HS2.out.step hr2 hm hg
        obtain ⟨ps2, hps2⟩ : ∃ z, z = ps1.take k ++ ps1.drop (k + 1) := ⟨_, rfl⟩
        rw [← hps2] at hS3
        have HS3 : Hid (RenS w wC q qf { st with fs := Dq.del t (Dq.del s st.fs) } G G4 v2 ps2 f (.slice ab nb cb)) := hS3
        clear hr hr2 hm hg hS3 hps2
        have hx0 := HS3.out.box.c0
        have hx1 := HS3.out.box.c1
        have hx2 := HS3.out.box.c2
        have hz0 := HS3.out.fz 0
        simp only [] at hx0 hx1 hx2
        have HS4 : Hid (RefC (wC.setCell ⟨qf, 0, none⟩ (.string t)) q { st with fs := Dq.del t (Dq.del s st.fs) } G4 v2 ps2 ∧ (wC.setCell ⟨qf, 0, none⟩ (.string t)).ownsRow (q + 1) 5 1 (.slice ab nb cb) f.b.length (bc f.b) ∧ Moved w (wC.setCell ⟨qf, 0, none⟩ (.string t)) G G4 ∧ ∀ k, (Value.slice ab nb cb).ownBlock = some k → G4 k) := by
          have hset := grownBy_setCell wC ⟨qf, 0, none⟩ (.string t)
          refine ⟨HS3.out.r.keep hset.size (fun k hk => hset.block k (HS3.out.r.glt k hk) (by simp; intro e; subst e; exact HS3.out.hf hk)), HS3.out.own.kept hset (Or.inr fun e => HS3.out.hf (HS3.out.gb qf e)), ⟨hset.os.trans HS3.out.m.os, hset.tape.trans HS3.out.m.tape, hset.output.trans HS3.out.m.output, Nat.le_trans HS3.out.m.size hset.size, fun k hk hG => ?_, HS3.out.m.sub⟩, HS3.out.gb⟩
          have h1 := HS3.out.m.size
          have h2 := HS3.out.h0
          exact (hset.block k (by omega) (by simp; omega)).trans (HS3.out.m.block k hk hG)
        have HL4 : Hid ((Dq.del t (Dq.del s st.fs)).length ≤ 1000) := by
          have h : (Dq.del t (Dq.del s st.fs)).length ≤ 1000 := Nat.le_trans (Dq.len_del t _) HLN.out
          exact h
        go_wp2_with fail
        clear hx0 hx1 hx2 hz0
        generalize wC.setCell ⟨qf, 0, none⟩ (.string t) = wD at *
        refine (refLay_any q _ G4 v2 ps2 { f with name := t } (.slice ab nb cb) _ HS4.out.1 (by have := HL4.out; simp only []; omega) HS4.out.2.1 HS4.out.2.2.2).mono ?_
        rintro e wE ⟨G5, v5, ps5, rfl, hr, hm⟩
        have HFIN : Hid (RefPost w q { st with fs := fsN } G wE) := by
          rw [HFS.out]
          exact ⟨_, _, _, hr, HS4.out.2.2.1.trans hm⟩
        clear hr hm
        go_wp2
        go_ret
        exact ⟨rfl, HFIN.out⟩
end Go.Proofs.Ytphmmdjefpfehaa
