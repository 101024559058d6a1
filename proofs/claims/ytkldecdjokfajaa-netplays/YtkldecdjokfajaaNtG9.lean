/- What the landed network answers to Lose, Copy, At and Take. -/
import Derived.Test.YtkldecdjokfajaaNtB9
import Derived.Test.YtkldecdjokfajaaNtF9
namespace Go.Proofs.Ytkldecdjokfajaa
open Go.RowKit

theorem Moved.of_iff {w w' : World} {F F0 F' : Nat → Prop} (h : Moved w w' F0 F') (e : ∀ k, F k ↔ F0 k) : Moved w w' F F' :=
  ⟨h.os, h.tape, h.output, h.size, fun k hk hF => h.block k hk (fun x => hF ((e k).2 x)), fun k hk => (h.sub k hk).imp (e k).2 id⟩
theorem Moved.same {w w' : World} {F F' : Nat → Prop} (h : Below w.heap.size w w') (hF : ∀ k, F' k → F k) : Moved w w' F F' :=
  ⟨h.os, h.tape, h.output, h.size, fun k hk _ => h.block k hk, fun k hk => Or.inl (hF k hk)⟩
/-- What a call leaves. -/
def PostN (w w' : World) (q : Nat) (n : Nq.Nt) (F : Nat → Prop) : Prop := ∃ F', LNt w' q n F' ∧ Moved w w' F F'
theorem PostN.mk {w w' : World} {q mm : Nat} {n : Nq.Nt} {F F0 G : Nat → Prop} {D : DataW Nat} {v : Value} {ps : List Nat} (h : NtU w' q n G mm D v ps) (hm : Moved w w' F0 (Fq q mm v G)) (e : ∀ k, F k ↔ F0 k) : PostN w w' q n F := ⟨_, ⟨G, mm, D, v, ps, h, fun _ => Iff.rfl⟩, hm.of_iff e⟩
theorem has_spec9 {w : World} {q mm : Nat} {n : Nq.Nt} {G : Nat → Prop} {D : DataW Nat} {v : Value} {ps : List Nat} (h : NtU w q n G mm D v ps) (k : Int) :
    Calls Try.prog 28 #[dptr q, .int .i64 k] w fun e w' => e = .returned (.bool (Nq.has n k)) ∧ w' = w := by
  obtain ⟨av, cv, rfl, _⟩ := h.slice
  exact has_any9 k h.blk

set_option maxRecDepth 20000 in
set_option maxHeartbeats 4000000 in
theorem lose_any9 (q : Nat) (n : Nq.Nt) (F : Nat → Prop) (k : Int) (w : World) (h : LNt w q n F) (hf : FineN n) :
    Calls Try.prog 13 #[dptr q, .int .i64 k] w fun e w' => e = .returned (.bool (Nq.has n k)) ∧ PostN w w' q (Nq.lose n k) F := by
  obtain ⟨G, mm, D, v, ps, h1, h2⟩ := h
  have HH : Hid (NtU w q n G mm D v ps ∧ FineN n ∧ ∀ k, F k ↔ Fq q mm v G k) := ⟨h1, hf, h2⟩
  have HS : Hid (Calls Try.prog 28 #[dptr q, .int .i64 k] w fun e w' => e = .returned (.bool (Nq.has n k)) ∧ w' = w) := has_spec9 h1 k
  clear h1 h2 hf
  cases hk : Nq.has n k with
  | false =>
    rw [hk] at HS
    have HL : Hid (Nq.lose n k = n) := Nq.lose_not hk
    clear hk
    go_enter Try.func13, Try.ntmps13
    go_wp2_with fail
    refine HS.out.mono ?_
    rintro e w1 ⟨rfl, hw⟩
    rw [hw]
    clear hw w1
    go_wp2
    go_ret
    exact ⟨rfl, by rw [HL.out]; exact PostN.mk HH.out.1 (Moved.refl _ _) HH.out.2.2⟩
  | true =>
    rw [hk] at HS
    obtain ⟨k0, k1⟩ := Nq.has_iff.1 hk
    obtain ⟨j, rfl⟩ : ∃ j : Nat, k = (j : Int) := ⟨k.toNat, by omega⟩
    have HL : Hid (Nq.lose n (j : Int) = { n with l := n.l.eraseIdx j } ∧ j < n.l.length ∧ n.l.length ≤ 100000) := ⟨by unfold Nq.lose; rw [if_pos hk]; rfl, by omega, by have h1 := HH.out.2.1.fits; have h2 := HH.out.2.1.room; omega⟩
    clear hk k0 k1
    go_enter Try.func13, Try.ntmps13
    go_wp2_with fail
    refine HS.out.mono ?_
    rintro e w1 ⟨rfl, hw⟩
    rw [hw]
    clear hw w1
    go_wp2_with fail
    refine (drop_any9 HH.out.1 HL.out.2.2 HL.out.2.1).mono ?_
    rintro e w2 ⟨rfl, v', ps', hn, hm, hj⟩
    clear hj
    have HF : Hid (PostN w w2 q (Nq.lose n (j : Int)) F) := by
      have h : PostN w w2 q (Nq.lose n (j : Int)) F := by
        rw [HL.out.1]
        exact PostN.mk hn hm HH.out.2.2
      exact h
    clear hn hm
    go_wp2
    go_ret
    exact ⟨rfl, HF.out⟩

set_option maxRecDepth 20000 in
set_option maxHeartbeats 4000000 in
theorem copy_any9 (q : Nat) (n : Nq.Nt) (F : Nat → Prop) (k : Int) (w : World) (h : LNt w q n F) (hf : FineN n) :
    Calls Try.prog 11 #[dptr q, .int .i64 k] w fun e w' => e = .returned (.bool (Nq.mayCopy n k)) ∧ PostN w w' q (Nq.copy n k) F := by
  obtain ⟨G, mm, D, v, ps, h1, h2⟩ := h
  have HH : Hid (NtU w q n G mm D v ps ∧ FineN n ∧ ∀ k, F k ↔ Fq q mm v G k) := ⟨h1, hf, h2⟩
  have HS : Hid (Calls Try.prog 28 #[dptr q, .int .i64 k] w fun e w' => e = .returned (.bool (Nq.has n k)) ∧ w' = w) := has_spec9 h1 k
  obtain ⟨av, cv, rfl, hav⟩ := h1.slice
  have HR : Hid (Calls Try.prog 26 #[dptr q] w fun e w' => e = .returned (.bool (decide (n.l.length < n.room))) ∧ Below w.heap.size w w') := hasRoom_any9 h1.blk
  have HAV : Hid (0 < n.l.length → ∃ g, av = some ⟨g, 0, none⟩) := hav
  obtain ⟨N, hN⟩ : ∃ N, N = n.l.length := ⟨_, rfl⟩
  have HN : Hid (N = n.l.length) := hN
  rw [← hN] at HH HR
  clear h1 h2 hf hav hN
  cases hk : Nq.has n k with
  | false =>
    rw [hk] at HS
    have hmc : Nq.mayCopy n k = false := by unfold Nq.mayCopy; rw [hk]; rfl
    have HL : Hid (Nq.copy n k = n) := Nq.copy_not hmc
    rw [hmc]
    clear hk hmc
    go_enter Try.func11, Try.ntmps11
    go_wp2_with fail
    refine HS.out.mono ?_
    rintro e w1 ⟨rfl, hw⟩
    rw [hw]
    clear hw w1
    go_wp2
    go_ret
    exact ⟨rfl, by rw [HL.out]; exact PostN.mk HH.out.1 (Moved.refl _ _) HH.out.2.2⟩
  | true =>
    rw [hk] at HS
    obtain ⟨k0, k1⟩ := Nq.has_iff.1 hk
    obtain ⟨j, rfl⟩ : ∃ j : Nat, k = (j : Int) := ⟨k.toNat, by omega⟩
    by_cases hr : N < n.room
    · rw [decide_eq_true hr] at HR
      have hmc : Nq.mayCopy n (j : Int) = true := by unfold Nq.mayCopy; rw [hk, ← HN.out, decide_eq_true hr]; rfl
      rw [hmc]
      have hjl : j < n.l.length := by omega
      obtain ⟨m, hm⟩ : ∃ m, n.l[j]? = some m := ⟨_, List.getElem?_eq_getElem hjl⟩
      obtain ⟨p, hp⟩ : ∃ p, ps[j]? = some p := ⟨_, List.getElem?_eq_getElem (by rw [HH.out.1.plen]; exact hjl)⟩
      have HL : Hid (Nq.copy n (j : Int) = { n with l := n.l ++ [m] } ∧ n.l[j]? = some m ∧ ps[j]? = some p ∧ j < n.l.length ∧ n.l.length ≤ 100000) := ⟨by unfold Nq.copy; rw [if_pos hmc, (Nq.at_has hm).2], hm, hp, hjl, by have h1 := HH.out.2.1.fits; have h2 := HH.out.2.1.room; omega⟩
      obtain ⟨gg, hgg⟩ := HAV.out (by omega)
      subst hgg
      have hjN : (j : Int) < (N : Int) := by rw [HN.out]; exact k1
      have hj0 : (0 : Int) ≤ (j : Int) := by omega
      clear hk k0 k1 hm hp hmc hjl hr
      go_enter Try.func11, Try.ntmps11
      go_wp2_with fail
      refine HS.out.mono ?_
      rintro e w1 ⟨rfl, hw⟩
      rw [hw]
      clear hw w1
      go_wp2_with fail
      refine HR.out.mono ?_
      rintro e w1 ⟨rfl, hb⟩
      have H1 : Hid (NtU w1 q n G mm D (.slice (some ⟨gg, 0, none⟩) N cv) ps ∧ Below w.heap.size w w1) := ⟨HH.out.1.below hb, hb⟩
      clear hb
      obtain ⟨xa, xb, hblk, hG, hmp⟩ := H1.out.1.msg j m p HL.out.2.1 HL.out.2.2.1
      have HM : Hid (Mp w1 m xa xb G) := hmp
      obtain ⟨a1, n1, c1, rfl, h7, _⟩ := hmp.ns
      obtain ⟨a2, n2, c2, rfl, h8, _⟩ := hmp.bs
      rename_i h9 h10
      have l2 : w1.cell? ⟨q, 2, none⟩ = some (.slice (some ⟨gg, 0, none⟩) N cv) := H1.out.1.blk.cell 2
      have lp : w1.cell? ⟨gg, j, none⟩ = some (dptr p) := by
        have hr := H1.out.1.row
        rw [← HN.out] at hr
        rw [hr.cellAt j (by omega), List.getElem?_map, HL.out.2.2.1]
        rfl
      have e0 := hblk.cell 0
      have e1 := hblk.cell 1
      have e2 := hblk.cell 2
      have e3 := hblk.cell 3
      have e4 := hblk.cell 4
      simp only [List.getElem?_cons_zero, List.getElem?_cons_succ] at e0 e1 e2 e3 e4
      clear h7 h8 h9 h10 hmp hblk hG
      go_wp2_with fail
      refine (lay_any9 H1.out.1 HL.out.2.2.2.2 m _ _ G HM.out (HH.out.2.1.lite m (List.mem_of_getElem? HL.out.2.1))).mono ?_
      rintro e w2 ⟨rfl, G', v', ps', hn, hm⟩
      have HF : Hid (PostN w w2 q (Nq.copy n (j : Int)) F) := by
        have h : PostN w w2 q (Nq.copy n (j : Int)) F := by
          rw [HL.out.1]
          exact PostN.mk hn ((Moved.of_below _ H1.out.2).trans hm) HH.out.2.2
        exact h
      clear hn hm e0 e1 e2 e3 e4 l2 lp
      go_wp2
      go_ret
      exact ⟨rfl, HF.out⟩
    · rw [decide_eq_false hr] at HR
      have hmc : Nq.mayCopy n (j : Int) = false := by unfold Nq.mayCopy; rw [hk, ← HN.out, decide_eq_false hr]; rfl
      have HL : Hid (Nq.copy n (j : Int) = n) := Nq.copy_not hmc
      rw [hmc]
      clear hk hmc hr k0 k1
      go_enter Try.func11, Try.ntmps11
      go_wp2_with fail
      refine HS.out.mono ?_
      rintro e w1 ⟨rfl, hw⟩
      rw [hw]
      clear hw w1
      go_wp2_with fail
      refine HR.out.mono ?_
      rintro e w1 ⟨rfl, hb⟩
      have H1 : Hid (NtU w1 q n G mm D (.slice av N cv) ps ∧ Below w.heap.size w w1) := ⟨HH.out.1.below hb, hb⟩
      clear hb
      go_wp2
      go_ret
      exact ⟨rfl, by rw [HL.out]; exact PostN.mk H1.out.1 (Moved.of_below _ H1.out.2) HH.out.2.2⟩

set_option maxRecDepth 20000 in
set_option maxHeartbeats 4000000 in
theorem at_any9 (q : Nat) (n : Nq.Nt) (F : Nat → Prop) (k : Int) (w : World) (h : LNt w q n F) (hf : FineN n) :
    Calls Try.prog 12 #[dptr q, .int .i64 k] w fun e w' => ∃ a b, e = .returned (.tuple #[mv (Nq.at_ n k) a b, .bool (Nq.has n k)]) ∧ Mp w' (Nq.at_ n k) a b (newer w) ∧ Below w.heap.size w w' := by
  obtain ⟨G, mm, D, v, ps, h1, h2⟩ := h
  have HH : Hid (NtU w q n G mm D v ps ∧ FineN n) := ⟨h1, hf⟩
  obtain ⟨av, cv, rfl, hav⟩ := h1.slice
  have HAV : Hid (0 < n.l.length → ∃ g, av = some ⟨g, 0, none⟩) := hav
  obtain ⟨N, hN⟩ : ∃ N, N = n.l.length := ⟨_, rfl⟩
  have HN : Hid (N = n.l.length) := hN
  rw [← hN] at HH
  clear h1 h2 hf hav hN F
  obtain ⟨p0, hp0⟩ : ∃ z, z = w.heap.size := ⟨_, rfl⟩
  have k0 := Nk.made w zero5 31
  have B0 := (Below.refl _ w).alloc (Nat.le_refl _) (.cells zero5.toArray 31)
  rw [← hp0] at k0
  unfold zero5 at k0 B0
  have HP0 : Hid (p0 = w.heap.size) := hp0
  go_enter Try.func12, Try.ntmps12
  go_wp2_with fail
  rw [← hp0]
  generalize w.alloc (.cells [.int .i64 0, .int .i64 0, .int .i64 0, .slice none 0 0, .slice none 0 0].toArray 31) = w0 at *
  have H0 : Hid (Nk w0 p0 zero5 31 ∧ Below w.heap.size w w0 ∧ NtU w0 q n G mm D (.slice av N cv) ps) := ⟨k0, B0, HH.out.1.below B0⟩
  clear k0 B0 hp0
  have HS : Hid (Calls Try.prog 28 #[dptr q, .int .i64 k] w0 fun e w' => e = .returned (.bool (Nq.has n k)) ∧ w' = w0) := has_spec9 H0.out.2.2 k
  cases hk : Nq.has n k with
  | false =>
    rw [hk] at HS
    have HL : Hid (Nq.at_ n k = Nq.Ms.zero ∧ Nq.has n k = false) := ⟨Nq.at_not hk, hk⟩
    clear hk
    have e0 := H0.out.1.cell 0
    have e1 := H0.out.1.cell 1
    have e2 := H0.out.1.cell 2
    have e3 := H0.out.1.cell 3
    have e4 := H0.out.1.cell 4
    simp only [zero5, List.getElem?_cons_zero, List.getElem?_cons_succ] at e0 e1 e2 e3 e4
    have g0 := H0.out.1.free 0
    have g1 := H0.out.1.free 1
    have g2 := H0.out.1.free 2
    have g3 := H0.out.1.free 3
    have g4 := H0.out.1.free 4
    refine HS.out.mono ?_
    rintro e w1 ⟨rfl, hw⟩
    rw [hw]
    clear hw w1
    go_wp2
    have H5 := set5_rest w0 p0 (.int .i64 0) (.int .i64 0) (.int .i64 0) (.slice none 0 0) (.slice none 0 0)
    refine bodyPost_ret (v := .tuple #[.agg #[.int .i64 0, .int .i64 0, .int .i64 0, .slice none 0 0, .slice none 0 0], .bool false]) ?_ rfl ?_
    · rw [results_cell_tmp rfl]
      go_simp
    · rw [HL.out.1, HL.out.2]
      have hp := HP0.out
      exact ⟨_, _, rfl, Mp.zero _ _, H0.out.2.1.trans ⟨H5.2.2.1, H5.2.2.2.1, H5.2.2.2.2, H5.2.1, fun j hj => H5.1 j (by omega)⟩⟩
  | true =>
    rw [hk] at HS
    obtain ⟨k0, k1⟩ := Nq.has_iff.1 hk
    obtain ⟨j, rfl⟩ : ∃ j : Nat, k = (j : Int) := ⟨k.toNat, by omega⟩
    have hjl : j < n.l.length := by omega
    obtain ⟨m, hm⟩ : ∃ m, n.l[j]? = some m := ⟨_, List.getElem?_eq_getElem hjl⟩
    obtain ⟨p, hp⟩ : ∃ p, ps[j]? = some p := ⟨_, List.getElem?_eq_getElem (by rw [HH.out.1.plen]; exact hjl)⟩
    have HL : Hid (Nq.at_ n (j : Int) = m ∧ n.l[j]? = some m ∧ ps[j]? = some p ∧ Nq.has n (j : Int) = true) := ⟨(Nq.at_has hm).2, hm, hp, hk⟩
    obtain ⟨gg, hgg⟩ := HAV.out (by omega)
    subst hgg
    have hjN : (j : Int) < (N : Int) := by rw [HN.out]; exact k1
    have hj0 : (0 : Int) ≤ (j : Int) := by omega
    clear hk k0 k1 hm hp hjl
    refine HS.out.mono ?_
    rintro e w1 ⟨rfl, hw⟩
    rw [hw]
    clear hw w1
    obtain ⟨xa, xb, hblk, hG, hmp⟩ := H0.out.2.2.msg j m p HL.out.2.1 HL.out.2.2.1
    have HM : Hid (Mp w0 m xa xb G) := hmp
    obtain ⟨a1, n1, c1, rfl, h7, _⟩ := hmp.ns
    obtain ⟨a2, n2, c2, rfl, h8, _⟩ := hmp.bs
    rename_i h9 h10
    have l2 : w0.cell? ⟨q, 2, none⟩ = some (.slice (some ⟨gg, 0, none⟩) N cv) := H0.out.2.2.blk.cell 2
    have lp : w0.cell? ⟨gg, j, none⟩ = some (dptr p) := by
      have hr := H0.out.2.2.row
      rw [← HN.out] at hr
      rw [hr.cellAt j (by omega), List.getElem?_map, HL.out.2.2.1]
      rfl
    have e0 := hblk.cell 0
    have e1 := hblk.cell 1
    have e2 := hblk.cell 2
    have e3 := hblk.cell 3
    have e4 := hblk.cell 4
    simp only [List.getElem?_cons_zero, List.getElem?_cons_succ] at e0 e1 e2 e3 e4
    clear h7 h8 h9 h10 hmp hblk hG
    go_wp2_with fail
    refine (twin_any9 m (.slice a1 n1 c1) (.slice a2 n2 c2) G w0 HM.out (HH.out.2.lite m (List.mem_of_getElem? HL.out.2.1))).mono ?_
    rintro e w2 ⟨x1, y1, z1, x2, y2, z2, rfl, hmp, hb⟩
    have H2 : Hid (Mp w2 m (.slice x1 y1 z1) (.slice x2 y2 z2) (newer w0) ∧ Below w0.heap.size w0 w2) := ⟨hmp, hb⟩
    have kk := H0.out.1.keep (hb.block p0 H0.out.1.lt)
    clear hmp hb e0 e1 e2 e3 e4 l2 lp
    have e0 := kk.cell 0
    have e1 := kk.cell 1
    have e2 := kk.cell 2
    have e3 := kk.cell 3
    have e4 := kk.cell 4
    have g0 := kk.free 0
    have g1 := kk.free 1
    have g2 := kk.free 2
    have g3 := kk.free 3
    have g4 := kk.free 4
    simp only [zero5, List.getElem?_cons_zero, List.getElem?_cons_succ] at e0 e1 e2 e3 e4
    clear kk
    unfold mv
    go_wp2
    have H5 := set5_rest w2 p0 (.int .i64 m.fr) (.int .i64 m.to) (.int .i64 m.kind) (.slice x1 y1 z1) (.slice x2 y2 z2)
    refine bodyPost_ret (v := .tuple #[.agg #[.int .i64 m.fr, .int .i64 m.to, .int .i64 m.kind, .slice x1 y1 z1, .slice x2 y2 z2], .bool true]) ?_ rfl ?_
    · rw [results_cell_tmp rfl]
      go_simp
    · rw [HL.out.1, HL.out.2.2.2]
      have hp := HP0.out
      have hlt := H0.out.1.lt
      have hsz := H0.out.2.1.size
      have hb2 : Below w.heap.size w w2 := H0.out.2.1.trans (H2.out.2.mono hsz)
      refine ⟨_, _, rfl, (H2.out.1.keep (fun j hj => H5.1 j ?_)).mono (fun j hj => ?_), hb2.trans ⟨H5.2.2.1, H5.2.2.2.1, H5.2.2.2.2, H5.2.1, fun j hj => H5.1 j (by omega)⟩⟩
      · unfold newer at hj
        omega
      · unfold newer at hj ⊢
        omega

set_option maxRecDepth 20000 in
set_option maxHeartbeats 8000000 in
theorem take_any9 (q : Nat) (n : Nq.Nt) (F : Nat → Prop) (k : Int) (w : World) (h : LNt w q n F) (hf : FineN n) :
    Calls Try.prog 17 #[dptr q, .int .i64 k] w fun e w' => ∃ a b, e = .returned (.tuple #[mv (Nq.at_ n k) a b, .bool (Nq.has n k)]) ∧ Mp w' (Nq.at_ n k) a b (fun j => newer w j ∨ F j) ∧ PostN w w' q (Nq.lose n k) F := by
  obtain ⟨G, mm, D, v, ps, h1, h2⟩ := h
  have HH : Hid (NtU w q n G mm D v ps ∧ FineN n ∧ ∀ k, F k ↔ Fq q mm v G k) := ⟨h1, hf, h2⟩
  obtain ⟨av, cv, rfl, hav⟩ := h1.slice
  have HAV : Hid (0 < n.l.length → ∃ g, av = some ⟨g, 0, none⟩) := hav
  obtain ⟨N, hN⟩ : ∃ N, N = n.l.length := ⟨_, rfl⟩
  have HN : Hid (N = n.l.length) := hN
  rw [← hN] at HH
  clear h1 h2 hf hav hN
  obtain ⟨p0, hp0⟩ : ∃ z, z = w.heap.size := ⟨_, rfl⟩
  have k0 := Nk.made w zero5 31
  have B0 := (Below.refl _ w).alloc (Nat.le_refl _) (.cells zero5.toArray 31)
  rw [← hp0] at k0
  unfold zero5 at k0 B0
  have HP0 : Hid (p0 = w.heap.size) := hp0
  go_enter Try.func17, Try.ntmps17
  go_wp2_with fail
  rw [← hp0]
  generalize w.alloc (.cells [.int .i64 0, .int .i64 0, .int .i64 0, .slice none 0 0, .slice none 0 0].toArray 31) = w0 at *
  have H0 : Hid (Nk w0 p0 zero5 31 ∧ Below w.heap.size w w0 ∧ NtU w0 q n G mm D (.slice av N cv) ps) := ⟨k0, B0, HH.out.1.below B0⟩
  clear k0 B0 hp0
  have HS : Hid (Calls Try.prog 28 #[dptr q, .int .i64 k] w0 fun e w' => e = .returned (.bool (Nq.has n k)) ∧ w' = w0) := has_spec9 H0.out.2.2 k
  cases hk : Nq.has n k with
  | false =>
    rw [hk] at HS
    have HL : Hid (Nq.at_ n k = Nq.Ms.zero ∧ Nq.has n k = false ∧ Nq.lose n k = n) := ⟨Nq.at_not hk, hk, Nq.lose_not hk⟩
    clear hk
    have e0 := H0.out.1.cell 0
    have e1 := H0.out.1.cell 1
    have e2 := H0.out.1.cell 2
    have e3 := H0.out.1.cell 3
    have e4 := H0.out.1.cell 4
    simp only [zero5, List.getElem?_cons_zero, List.getElem?_cons_succ] at e0 e1 e2 e3 e4
    have g0 := H0.out.1.free 0
    have g1 := H0.out.1.free 1
    have g2 := H0.out.1.free 2
    have g3 := H0.out.1.free 3
    have g4 := H0.out.1.free 4
    refine HS.out.mono ?_
    rintro e w1 ⟨rfl, hw⟩
    rw [hw]
    clear hw w1
    go_wp2
    have H5 := set5_rest w0 p0 (.int .i64 0) (.int .i64 0) (.int .i64 0) (.slice none 0 0) (.slice none 0 0)
    refine bodyPost_ret (v := .tuple #[.agg #[.int .i64 0, .int .i64 0, .int .i64 0, .slice none 0 0, .slice none 0 0], .bool false]) ?_ rfl ?_
    · rw [results_cell_tmp rfl]
      go_simp
    · rw [HL.out.1, HL.out.2.1, HL.out.2.2]
      have hp := HP0.out
      have hb : Below w.heap.size w (set5 w0 p0 (.int .i64 0) (.int .i64 0) (.int .i64 0) (.slice none 0 0) (.slice none 0 0)) := H0.out.2.1.trans ⟨H5.2.2.1, H5.2.2.2.1, H5.2.2.2.2, H5.2.1, fun j hj => H5.1 j (by omega)⟩
      exact ⟨_, _, rfl, Mp.zero _ _, PostN.mk (HH.out.1.below hb) (Moved.of_below _ hb) HH.out.2.2⟩
  | true =>
    rw [hk] at HS
    obtain ⟨k0, k1⟩ := Nq.has_iff.1 hk
    obtain ⟨j, rfl⟩ : ∃ j : Nat, k = (j : Int) := ⟨k.toNat, by omega⟩
    have hjl : j < n.l.length := by omega
    obtain ⟨m, hm⟩ : ∃ m, n.l[j]? = some m := ⟨_, List.getElem?_eq_getElem hjl⟩
    obtain ⟨p, hp⟩ : ∃ p, ps[j]? = some p := ⟨_, List.getElem?_eq_getElem (by rw [HH.out.1.plen]; exact hjl)⟩
    have HL : Hid (Nq.at_ n (j : Int) = m ∧ n.l[j]? = some m ∧ ps[j]? = some p ∧ Nq.has n (j : Int) = true ∧ Nq.lose n (j : Int) = { n with l := n.l.eraseIdx j } ∧ j < n.l.length ∧ n.l.length ≤ 100000) := ⟨(Nq.at_has hm).2, hm, hp, hk, by unfold Nq.lose; rw [if_pos hk]; rfl, hjl, by have h1 := HH.out.2.1.fits; have h2 := HH.out.2.1.room; omega⟩
    obtain ⟨gg, hgg⟩ := HAV.out (by omega)
    subst hgg
    have hjN : (j : Int) < (N : Int) := by rw [HN.out]; exact k1
    have hj0 : (0 : Int) ≤ (j : Int) := by omega
    clear hk k0 k1 hm hp hjl
    refine HS.out.mono ?_
    rintro e w1 ⟨rfl, hw⟩
    rw [hw]
    clear hw w1
    obtain ⟨xa, xb, hblk, hG, hmp⟩ := H0.out.2.2.msg j m p HL.out.2.1 HL.out.2.2.1
    have HM : Hid (Mp w0 m xa xb G) := hmp
    obtain ⟨a1, n1, c1, rfl, h7, _⟩ := hmp.ns
    obtain ⟨a2, n2, c2, rfl, h8, _⟩ := hmp.bs
    rename_i h9 h10
    have l2 : w0.cell? ⟨q, 2, none⟩ = some (.slice (some ⟨gg, 0, none⟩) N cv) := H0.out.2.2.blk.cell 2
    have lp : w0.cell? ⟨gg, j, none⟩ = some (dptr p) := by
      have hr := H0.out.2.2.row
      rw [← HN.out] at hr
      rw [hr.cellAt j (by omega), List.getElem?_map, HL.out.2.2.1]
      rfl
    have e0 := hblk.cell 0
    have e1 := hblk.cell 1
    have e2 := hblk.cell 2
    have e3 := hblk.cell 3
    have e4 := hblk.cell 4
    simp only [List.getElem?_cons_zero, List.getElem?_cons_succ] at e0 e1 e2 e3 e4
    clear h7 h8 h9 h10 hmp hblk hG
    obtain ⟨p6, hp6⟩ : ∃ z, z = w0.heap.size := ⟨_, rfl⟩
    have k6 := Nk.made w0 (m5 m (.slice a1 n1 c1) (.slice a2 n2 c2)) 31
    have B6 := (Below.refl _ w0).alloc (Nat.le_refl _) (.cells (m5 m (.slice a1 n1 c1) (.slice a2 n2 c2)).toArray 31)
    rw [← hp6] at k6
    unfold m5 at k6 B6
    go_wp2_with fail
    rw [← hp6]
    generalize w0.alloc (.cells [.int .i64 m.fr, .int .i64 m.to, .int .i64 m.kind, .slice a1 n1 c1, .slice a2 n2 c2].toArray 31) = w1 at *
    have H1 : Hid (Nk w1 p6 (m5 m (.slice a1 n1 c1) (.slice a2 n2 c2)) 31 ∧ Below w0.heap.size w0 w1 ∧ p6 = w0.heap.size) := ⟨k6, B6, hp6⟩
    clear k6 B6 hp6 e0 e1 e2 e3 e4 l2 lp
    refine (drop_any9 (H0.out.2.2.below H1.out.2.1) HL.out.2.2.2.2.2.2 HL.out.2.2.2.2.2.1).mono ?_
    rintro e w2 ⟨rfl, v', ps', hn, hm, hj⟩
    have HMB : Hid (∀ j, j < w1.heap.size → ¬ (j = q ∨ j = mm ∨ (Value.slice (some ⟨gg, 0, none⟩) N cv).ownBlock = some j) → w2.heap[j]? = w1.heap[j]?) := hj
    clear hj
    have H2 : Hid (NtU w2 q { n with l := n.l.eraseIdx j } G mm D v' ps' ∧ Moved w1 w2 (Fq q mm (.slice (some ⟨gg, 0, none⟩) N cv) G) (Fq q mm v' G)) := ⟨hn, hm⟩
    have hfl : ∀ k, w.heap.size ≤ k → ¬ Fq q mm (.slice (some ⟨gg, 0, none⟩) N cv) G k := fun k hk hF => by
      have := HH.out.1.flt hF
      omega
    have k6 := H1.out.1.keep (hm.block p6 H1.out.1.lt (hfl p6 (by have h1 := H1.out.2.2; have h2 := H0.out.2.1.size; omega)))
    have h0 := H0.out.1.keep (H1.out.2.1.block p0 H0.out.1.lt)
    have k0 := h0.keep (hm.block p0 h0.lt (hfl p0 (by have := HP0.out; omega)))
    clear hn hm hfl h0
    have e0 := k6.cell 0
    have e1 := k6.cell 1
    have e2 := k6.cell 2
    have e3 := k6.cell 3
    have e4 := k6.cell 4
    have f0 := k0.cell 0
    have f1 := k0.cell 1
    have f2 := k0.cell 2
    have f3 := k0.cell 3
    have f4 := k0.cell 4
    have g0 := k0.free 0
    have g1 := k0.free 1
    have g2 := k0.free 2
    have g3 := k0.free 3
    have g4 := k0.free 4
    simp only [m5, zero5, List.getElem?_cons_zero, List.getElem?_cons_succ] at e0 e1 e2 e3 e4 f0 f1 f2 f3 f4
    clear k0 k6
    go_wp2
    have H5 := set5_rest w2 p0 (.int .i64 m.fr) (.int .i64 m.to) (.int .i64 m.kind) (.slice a1 n1 c1) (.slice a2 n2 c2)
    refine bodyPost_ret (v := .tuple #[.agg #[.int .i64 m.fr, .int .i64 m.to, .int .i64 m.kind, .slice a1 n1 c1, .slice a2 n2 c2], .bool true]) ?_ rfl ?_
    · rw [results_cell_tmp rfl]
      go_simp
    · rw [HL.out.1, HL.out.2.2.2.1, HL.out.2.2.2.2.1]
      have hp := HP0.out
      have hs0 := H0.out.2.1.size
      have hs1 := H1.out.2.1.size
      have hs2 := H2.out.2.size
      have hb01 : Below w.heap.size w w1 := H0.out.2.1.trans (H1.out.2.1.mono hs0)
      have hFlt : ∀ k, Fq q mm v' G k → k < w.heap.size ∨ w1.heap.size ≤ k := fun k hk => by
        rcases H2.out.2.sub k hk with e | e
        · exact Or.inl (HH.out.1.flt e)
        · exact Or.inr e
      have hp0lt : p0 < w1.heap.size := by
        have := H0.out.1.lt
        omega
      have hNE : NtU (set5 w2 p0 (.int .i64 m.fr) (.int .i64 m.to) (.int .i64 m.kind) (.slice a1 n1 c1) (.slice a2 n2 c2)) q { n with l := n.l.eraseIdx j } G mm D v' ps' := H2.out.1.keep H5.2.1 (fun k hk => H5.1 k (by rcases hFlt k hk with e | e <;> omega))
      have hMp : Mp (set5 w2 p0 (.int .i64 m.fr) (.int .i64 m.to) (.int .i64 m.kind) (.slice a1 n1 c1) (.slice a2 n2 c2)) m (.slice a1 n1 c1) (.slice a2 n2 c2) G := HM.out.keep (fun k hk => by
        have h3 := HH.out.1.glt k hk
        have hkG : ¬ (k = q ∨ k = mm ∨ (Value.slice (some ⟨gg, 0, none⟩) N cv).ownBlock = some k) := by
          rintro (rfl | rfl | e)
          · exact HH.out.1.gq hk
          · exact HH.out.1.gm hk
          · exact HH.out.1.gv k e hk
        rw [H5.1 k (by omega), HMB.out k (by omega) hkG]
        exact H1.out.2.1.block k (by omega))
      refine ⟨_, _, rfl, hMp.mono (fun k hk => Or.inr ((HH.out.2.2 k).2 (Or.inr (Or.inr (Or.inr hk))))), PostN.mk hNE ⟨?_, ?_, ?_, ?_, fun k hk hF => ?_, fun k hk => ?_⟩ HH.out.2.2⟩
      · rw [H5.2.2.1, H2.out.2.os]; exact hb01.os
      · rw [H5.2.2.2.1, H2.out.2.tape]; exact hb01.tape
      · rw [H5.2.2.2.2, H2.out.2.output]; exact hb01.output
      · exact Nat.le_trans (by omega) H5.2.1
      · rw [H5.1 k (by omega), H2.out.2.block k (by omega) hF]
        exact hb01.block k hk
      · rcases H2.out.2.sub k hk with e | e
        · exact Or.inl e
        · exact Or.inr (by omega)
end Go.Proofs.Ytkldecdjokfajaa
