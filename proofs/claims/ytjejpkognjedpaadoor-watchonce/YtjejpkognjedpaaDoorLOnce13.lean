/- WatchOnce's walk. -/
import Derived.Test.YtjejpkognjedpaaDoorActs13
import Derived.BigQuiet
import Derived.Deep.DeepCutAuto
namespace Go.Proofs.YtjejpkognjedpaaDoor
open Go.RowKit

set_option maxRecDepth 20000 in
set_option maxHeartbeats 8000000 in
theorem once_any13 {LW : Rep13} (S : Specs13 LW) (v : Value) (xs : List Hq.Ac) (W : World) (hS : Pa.Std W) (hv : Acl13 W v xs) (hl : xs.length ≤ maxLen) (hok : ∀ x ∈ xs, AcOk13 x) :
    Calls Tryd.prog 5 #[v] W fun e w' => e = .returned (.bool true) ∧ Below W.heap.size W w' := by
  have HS : Hid (Specs13 LW ∧ Pa.Std W ∧ (∀ x ∈ xs, AcOk13 x)) := ⟨S, hS, hok⟩
  obtain ⟨av, N, c, rfl, hN, hj⟩ := hv
  have HV : Hid (Acl13 W (.slice av N c) xs ∧ N = xs.length) := ⟨⟨av, N, c, rfl, hN, hj⟩, hN⟩
  have hN1 : N ≤ 9223372036854775807 := by unfold maxLen at hl; omega
  clear S hS hok hl hN hj
  go_enter Tryd.func5, Tryd.ntmps5
  go_wp2_with fail
  refine (awake_any13 HS.out.1 W HS.out.2.1).mono ?_
  rintro e w0 ⟨rfl, hb0⟩
  have H0 : Hid (Below W.heap.size W w0) := hb0
  clear hb0
  by_cases h40 : 80 < N
  · have h40' : (80 : Int) < (N : Int) := by omega
    go_wp2
    go_ret
    exact ⟨rfl, H0.out⟩
  have h40' : ¬ (80 : Int) < (N : Int) := by omega
  go_wp2_with fail
  refine (mine13_new HS.out.1 H0.out 1000 (by decide)).mono ?_
  rintro e w1 ⟨q, F1, rfl, hM⟩
  have M1 : Hid (Mine13 LW W w1 q ⟨1000, []⟩ F1) := hM
  clear hM
  go_wp2
  go_loopw [5, 6, 7] (fun a t i wx => ∃ k A T : Nat, k ≤ N ∧ a = .int .i64 (A : Int) ∧ t = .int .i64 (T : Int) ∧ i = .int .i64 (k : Int) ∧ ∃ s F, Mine13 LW W wx q s F ∧ T + s.l.length = A ∧ A ≤ k) (fun _ _ i _ => N - (intOf i).toNat)
  case atStart => exact ⟨0, 0, 0, Nat.zero_le _, rfl, rfl, rfl, _, F1, M1.out, rfl, Nat.le_refl _⟩
  case round =>
    obtain ⟨k, A, T, hk, rfl, rfl, rfl, s, F, hM, hTA, hAk⟩ := hrel
    obtain ⟨L, hL⟩ : ∃ L, L = s.l.length := ⟨_, rfl⟩
    rw [← hL] at hTA
    have HM : Hid (Mine13 LW W wr q s F ∧ L = s.l.length) := ⟨hM, hL⟩
    clear hM M1 hL
    by_cases hlt : k < N
    · have hlt' : (k : Int) < (N : Int) := by omega
      have hk0 : (0 : Int) ≤ (k : Int) := by omega
      have hwk : IntKind.wrap .i64 ((k : Int) + 1) = (k : Int) + 1 := by rw [IntKind.wrap_i64]; omega
      obtain ⟨x, hx⟩ : ∃ x, xs[k]? = some x := ⟨xs[k]'(by rw [← HV.out.2]; exact hlt), List.getElem?_eq_getElem _⟩
      have HX : Hid (xs[k]? = some x ∧ AcOk13 x) := ⟨hx, HS.out.2.2 x (List.mem_of_getElem? hx)⟩
      obtain ⟨g, o, rfl, c0, c1, c2, c3⟩ := (HV.out.1.below HM.out.1.below).at hx
      clear hx
      have hsz : x.p.size ≤ 9223372036854775807 := by have h := HX.out.2.p; unfold maxLen at h; omega
      obtain ⟨ab, hab⟩ : ∃ z, z = wr.heap.size := ⟨_, rfl⟩
      have H2 : Hid (Mine13 LW W (wr.alloc (.cells #[.int .i64 x.op, .int .i64 x.sess, .string x.p, .int .i64 x.kind] 40)) q s F ∧ Kept13 (wr.alloc (.cells #[.int .i64 x.op, .int .i64 x.sess, .string x.p, .int .i64 x.kind] 40)) F ab (aac13 x) 40) := ⟨HM.out.1.later HS.out.1 ((Below.refl _ wr).alloc (Nat.le_refl _) _), by rw [hab]; exact Kept13.made wr F (fun k hk => HS.out.1.lt HM.out.1.ld hk) (aac13 x) _⟩
      go_upto_region 11 with fail
      rw [← hab]
      clear hab c0 c1 c2 c3
      generalize wr.alloc (.cells #[.int .i64 x.op, .int .i64 x.sess, .string x.p, .int .i64 x.kind] 40) = w2 at *
      have a0 : w2.cell? ⟨ab, 0, none⟩ = some (.int .i64 x.op) := H2.out.2.cb.cell 0
      have a1 : w2.cell? ⟨ab, 1, none⟩ = some (.int .i64 x.sess) := H2.out.2.cb.cell 1
      have a2 : w2.cell? ⟨ab, 2, none⟩ = some (.string x.p) := H2.out.2.cb.cell 2
      have a3 : w2.cell? ⟨ab, 3, none⟩ = some (.int .i64 x.kind) := H2.out.2.cb.cell 3
      by_cases h3 : 300 < x.p.size
      · have h3' : (300 : Int) < (x.p.size : Int) := by omega
        go_wp2
        go_ret
        exact ⟨rfl, H2.out.1.below⟩
      have h3' : ¬ (300 : Int) < (x.p.size : Int) := by omega
      by_cases hop : x.op = 0
      · have hob : (x.op == 0) = true := by simp [hop]
        clear hop
        obtain ⟨L2, hL2⟩ : ∃ z, z = (Hq.arm s x.wt).2.l.length := ⟨_, rfl⟩
        have hL3 : L2 = L ∨ L2 = L + 1 := by rw [hL2, HM.out.2]; exact Hq.arm_len _ _
        have HL : Hid (L2 = (Hq.arm s x.wt).2.l.length) := hL2
        clear hL2
        go_wp2_with fail
        refine (H2.out.1.len HS.out.1 L HM.out.2.symm).mono ?_
        rintro e w3 ⟨rfl, hM, hb3⟩
        have H3 : Hid (Mine13 LW W w3 q s F ∧ Kept13 w3 F ab (aac13 x) 40) := ⟨hM, H2.out.2.later hb3⟩
        clear hM hb3 a0 a1 a2 a3
        have a1 : w3.cell? ⟨ab, 1, none⟩ = some (.int .i64 x.sess) := H3.out.2.cb.cell 1
        have a2 : w3.cell? ⟨ab, 2, none⟩ = some (.string x.p) := H3.out.2.cb.cell 2
        have a3 : w3.cell? ⟨ab, 3, none⟩ = some (.int .i64 x.kind) := H3.out.2.cb.cell 3
        go_wp2_with fail
        refine (H3.out.1.arm HS.out.1 HS.out.2.1 x.sess x.p x.kind HX.out.2.p (Hq.arm s x.wt).1 (Hq.arm s x.wt).2 rfl).mono ?_
        rintro e w4 ⟨F4, rfl, hM, hmv⟩
        have M4 : Hid (Mine13 LW W w4 q (Hq.arm s x.wt).2 F4) := hM
        clear hM hmv a1 a2 a3
        go_wp2_with fail
        refine (M4.out.len HS.out.1 L2 HL.out.symm).mono ?_
        rintro e w5 ⟨rfl, hM, hb3⟩
        have M5 : Hid (Mine13 LW W w5 q (Hq.arm s x.wt).2 F4) := hM
        clear hM hb3
        have hw1 : IntKind.wrap .i64 ((A : Int) + (L2 : Int)) = (A : Int) + (L2 : Int) := by rw [IntKind.wrap_i64]; omega
        have hw2 : IntKind.wrap .i64 ((A : Int) + (L2 : Int) - (L : Int)) = ((A + L2 - L : Nat) : Int) := by rw [IntKind.wrap_i64]; omega
        go_wp2
        go_roundw
        case rel => exact ⟨k + 1, A + L2 - L, T, by omega, rfl, rfl, by go_num, _, F4, M5.out, by rw [← HL.out]; omega, by omega⟩
        case measure => simp [intOf]; omega
      · have hob : (x.op == 0) = false := by simp [hop]
        clear hop
        obtain ⟨es, hes⟩ : ∃ es, es = Hq.events s x.p x.kind := ⟨_, rfl⟩
        obtain ⟨E, hE⟩ : ∃ E, E = es.length := ⟨_, rfl⟩
        obtain ⟨L2, hL2⟩ : ∃ z, z = (Hq.fired s x.p x.kind).l.length := ⟨_, rfl⟩
        have hLE : E + L2 = L := by rw [hE, hes, hL2, HM.out.2]; exact Hq.fired_len _ _ _
        have HL : Hid (L2 = (Hq.fired s x.p x.kind).l.length ∧ es = Hq.events s x.p x.kind ∧ E = es.length ∧ ∀ e ∈ es, (e.kind ≠ 4 ∧ e.path = x.p ∧ e.kind = x.kind) ∨ (e.kind = 4 ∧ e.path.size < x.p.size)) := ⟨hL2, hes, hE, fun e he => Hq.events_told (by rw [hes] at he; exact he)⟩
        clear hL2 hes hE
        go_wp2_with fail
        refine (H2.out.1.len HS.out.1 L HM.out.2.symm).mono ?_
        rintro e w3 ⟨rfl, hM, hb3⟩
        have H3 : Hid (Mine13 LW W w3 q s F ∧ Kept13 w3 F ab (aac13 x) 40) := ⟨hM, H2.out.2.later hb3⟩
        clear hM hb3 a0 a1 a2 a3
        have a2 : w3.cell? ⟨ab, 2, none⟩ = some (.string x.p) := H3.out.2.cb.cell 2
        have a3 : w3.cell? ⟨ab, 3, none⟩ = some (.int .i64 x.kind) := H3.out.2.cb.cell 3
        go_wp2_with fail
        refine (H3.out.1.fire HS.out.1 HS.out.2.1 x.p x.kind HX.out.2.p es _ HL.out.2.1.symm rfl).mono ?_
        rintro e w4 ⟨F4, v4, rfl, hev, hof, hM, hmv⟩
        have H4 : Hid (Mine13 LW W w4 q (Hq.fired s x.p x.kind) F4 ∧ Ek w4 F4 v4 es ∧ Kept13 w4 F4 ab (aac13 x) 40) := ⟨hM, Ek.of hev hof, H3.out.2.moved hmv⟩
        obtain ⟨a8, n8, c8, rfl, hn8, j1, j2, j3⟩ := hev
        have hn8b : E = n8 := by rw [HL.out.2.2.1, hn8]
        clear hn8 j1 j2 j3 hM hmv hof a2 a3
        subst hn8b
        have hw1 : IntKind.wrap .i64 ((T : Int) + (E : Int)) = ((T + E : Nat) : Int) := by rw [IntKind.wrap_i64]; omega
        go_wp2_with fail
        refine (H4.out.1.len HS.out.1 L2 HL.out.1.symm).mono ?_
        rintro e w5 ⟨rfl, hM, hb3⟩
        have H5 : Hid (Mine13 LW W w5 q (Hq.fired s x.p x.kind) F4 ∧ Ek w5 F4 (.slice a8 E c8) es ∧ Kept13 w5 F4 ab (aac13 x) 40) := ⟨hM, H4.out.2.1.later hb3, H4.out.2.2.later hb3⟩
        clear hM hb3
        have hw2 : IntKind.wrap .i64 ((L : Int) - (L2 : Int)) = (E : Int) := by rw [IntKind.wrap_i64]; omega
        have hne : ((E : Int) != (E : Int)) = false := by simp
        go_wp2
        go_loopw [12] (fun i wx => ∃ z : Nat, z ≤ E ∧ i = .int .i64 (z : Int) ∧ Below w5.heap.size w5 wx) (fun i _ => E - (intOf i).toNat)
        case atStart => exact ⟨0, Nat.zero_le _, rfl, Below.refl _ _⟩
        case round =>
          obtain ⟨z, hz, rfl, hbz⟩ := hrel
          have HZ : Hid (Mine13 LW W wr q (Hq.fired s x.p x.kind) F4 ∧ Ek wr F4 (.slice a8 E c8) es ∧ Kept13 wr F4 ab (aac13 x) 40 ∧ Below w5.heap.size w5 wr) := ⟨H5.out.1.later HS.out.1 hbz, H5.out.2.1.later hbz, H5.out.2.2.later hbz, hbz⟩
          clear hbz
          by_cases hzl : z < E
          · have hzl' : (z : Int) < (E : Int) := by omega
            have hz0 : (0 : Int) ≤ (z : Int) := by omega
            have hwz : IntKind.wrap .i64 ((z : Int) + 1) = (z : Int) + 1 := by rw [IntKind.wrap_i64]; omega
            obtain ⟨y, hy⟩ : ∃ y, es[z]? = some y := ⟨es[z]'(by rw [← HL.out.2.2.1]; exact hzl), List.getElem?_eq_getElem _⟩
            obtain ⟨g8, b8, c8', e8, hcs⟩ : ∃ g b c, Value.slice a8 E c8 = .slice (some ⟨g, b, none⟩) E c ∧ ∀ (j : Nat) x, es[j]? = some x → wr.cell? ⟨g, b + j * 3 + 1, none⟩ = some (.string x.path) ∧ wr.cell? ⟨g, b + j * 3 + 2, none⟩ = some (.int .i64 x.kind) := by
              obtain ⟨g, b, c, e, _, h⟩ := HZ.out.2.1.ev.at (by rw [← HL.out.2.2.1]; omega)
              rw [← HL.out.2.2.1] at e
              exact ⟨g, b, c, e, fun j x hx => (h j x hx).2⟩
            simp only [Value.slice.injEq, true_and] at e8
            obtain ⟨rfl, rfl⟩ := e8
            obtain ⟨y1, y2⟩ := hcs z y hy
            have a2 : wr.cell? ⟨ab, 2, none⟩ = some (.string x.p) := HZ.out.2.2.1.cb.cell 2
            have a3 : wr.cell? ⟨ab, 3, none⟩ = some (.int .i64 x.kind) := HZ.out.2.2.1.cb.cell 3
            have hcase := HL.out.2.2.2 y (List.mem_of_getElem? hy)
            clear hcs hy
            go_upto_region 25 with fail
            rcases hcase with ⟨k1, k2, k3⟩ | ⟨k1, k2⟩
            · rw [k2] at y1
              rw [k3] at y2 k1
              have k4 : (x.kind != 4) = true := by simp [k1]
              have k5 : (x.kind == 4) = false := by simp [k1]
              have k6 : (x.kind != x.kind) = false := by simp
              clear k1 k2 k3
              go_quiet (fail)
              have HB : Hid (Below w5.heap.size w5 (wr.drewN nq)) := below_drewN HZ.out.2.2.2 _
              clear y1 y2 a2 a3 k4 k5 k6
              go_wp2
              go_roundw
              case rel => exact ⟨z + 1, by omega, by go_num, HB.out⟩
              case measure => simp [intOf]; omega
            · rw [k1] at y2
              have k4 : ¬ (x.p.size : Int) ≤ (y.path.size : Int) := by omega
              have k5 : y.path.size ≤ 9223372036854775807 := by omega
              clear k1 k2
              go_quiet (fail)
              have HB : Hid (Below w5.heap.size w5 (wr.drewN nq)) := below_drewN HZ.out.2.2.2 _
              clear y1 y2 a2 a3 k4 k5
              go_wp2
              go_roundw
              case rel => exact ⟨z + 1, by omega, by go_num, HB.out⟩
              case measure => simp [intOf]; omega
          · have hzl' : ¬ (z : Int) < (E : Int) := by omega
            go_wp2
            go_roundw
            case rel => exact ⟨k + 1, A, T + E, by omega, rfl, rfl, by go_num, _, F4, HZ.out.1, by rw [← HL.out.1]; omega, by omega⟩
            case measure => simp [intOf]; omega
    · have hlt' : ¬ (k : Int) < (N : Int) := by omega
      go_wp2_with fail
      refine (HM.out.1.len HS.out.1 L HM.out.2.symm).mono ?_
      rintro e w9 ⟨rfl, hM, hb3⟩
      have M9 : Hid (Mine13 LW W w9 q s F) := hM
      clear hM hb3
      have hw1 : IntKind.wrap .i64 ((T : Int) + (L : Int)) = (A : Int) := by rw [IntKind.wrap_i64]; omega
      have hAA : ((A : Int) == (A : Int)) = true := by simp
      go_wp2
      go_ret
      exact ⟨rfl, M9.out.below⟩
end Go.Proofs.YtjejpkognjedpaaDoor
