/- TreeKids: its walk. -/
import Derived.Test.YtfcbdjjbchcpjaaDoorLNumbers11
import Derived.Test.YtfcbdjjbchcpjaaDoorKid11
import Derived.Test.YtfcbdjjbchcpjaaDoorBas
namespace Go.Proofs.YtfcbdjjbchcpjaaDoor.Tq
open Kq
def pP : ByteArray := ⟨#[47, 112]⟩
def pPC : ByteArray := ⟨#[47, 112, 47, 99]⟩
theorem bp_p : Bp pP pPC := ⟨by kernel_rfl, by kernel_rfl, by kernel_rfl, by kernel_rfl, by decide, by decide⟩
end Go.Proofs.YtfcbdjjbchcpjaaDoor.Tq
namespace Go.Proofs.YtfcbdjjbchcpjaaDoor
open Go.RowKit

theorem Qr11.form {W w : World} {F : Nat → Prop} {v : Value} {l : List ByteArray} (h : Qr11 W w F v l) : ∃ ao cap, v = .slice ao l.length cap := by
  obtain ⟨ao, b, off, cap, rfl, _⟩ := h
  exact ⟨ao, cap, rfl⟩
theorem Qr11.bare {W w : World} {F : Nat → Prop} {a : Option Addr} {L : Nat} {l : List ByteArray} (h : Qr11 W w F (.slice a L 0) l) (a' : Option Addr) : Qr11 W w F (.slice a' L 0) l := by
  obtain ⟨ao, b, off, cap, e, hc, hn⟩ := h
  simp only [Value.slice.injEq] at e
  obtain ⟨rfl, rfl, rfl⟩ := e
  exact ⟨a', b, off, 0, rfl, ⟨hc.le, fun h => by omega, fun h => by omega, hc.oldsLen, hc.olds, hc.spare⟩, fun h => by omega⟩
/-- What TreeKids' loop knows. -/
structure Ks11 (LT : Rep11) (W w : World) (q : Nat) (t : Tq.Tr) (F : Nat → Prop) (v : Value) (n : Nat) (js : List Nat) (K : Int) : Prop where
  mine : Mine11 LT W w q t F
  kd : Tq.Kd Tq.pP Tq.pPC t n js K 1
  room : t.room = 100
  row : Qr11 W w F v (js.map (Tq.kid Tq.pPC))
theorem Ks11.later {LT : Rep11} (S : Specs11 LT) {W w w' : World} {q : Nat} {t : Tq.Tr} {F : Nat → Prop} {v : Value} {n : Nat} {js : List Nat} {K : Int} (h : Ks11 LT W w q t F v n js K) (hb : Below w.heap.size w w') : Ks11 LT W w' q t F v n js K := ⟨h.mine.later S hb, h.kd, h.room, h.row.later hb⟩

set_option maxRecDepth 20000 in
set_option maxHeartbeats 4000000 in
theorem kids_any11 {LT : Rep11} (S : Specs11 LT) (u : Value) (l : List Bool) (W : World) (hS : Pa.Std W) (hu : Bb W u l) (hl : l.length ≤ maxLen) :
    Calls Tryd.prog 5 #[u] W fun e w' => e = .returned (.bool true) ∧ Below W.heap.size W w' := by
  have HS : Hid (Specs11 LT ∧ Pa.Std W) := ⟨S, hS⟩
  obtain ⟨av, N, c, rfl, hk, hc⟩ := hu
  have HC : Hid ((∀ (j : Nat) t, l[j]? = some t → ∃ g o, av = some ⟨g, o, none⟩ ∧ W.cell? ⟨g, o + j, none⟩ = some (.bool t)) ∧ N = l.length) := ⟨hc, hk⟩
  have hN1 : N ≤ 9223372036854775807 := by unfold maxLen at hl; omega
  clear S hS hc hk hl
  go_enter Tryd.func5, Tryd.ntmps5
  go_wp2_with fail
  refine (awake_any11 HS.out.1 W HS.out.2).mono ?_
  rintro e w0 ⟨rfl, hb⟩
  have B0 : Hid (Below W.heap.size W w0) := hb
  clear hb
  by_cases h40 : 40 < N
  · have h40' : (40 : Int) < (N : Int) := by omega
    go_wp2
    go_ret
    exact ⟨rfl, B0.out⟩
  have h40' : ¬ (40 : Int) < (N : Int) := by omega
  go_wp2_with fail
  refine (Mine11.made HS.out.1 100 (by decide) B0.out).mono ?_
  rintro e w1 ⟨q, F1, rfl, hM, hb⟩
  have M1 : Hid (Mine11 LT W w1 q ⟨100, []⟩ F1) := hM
  clear hM hb B0
  go_wp2_with fail
  refine (made_any11 Tq.pP 0 w1).mono ?_
  rintro e w2 ⟨rfl, hb⟩
  have M2 : Hid (Mine11 LT W w2 q ⟨100, []⟩ F1) := M1.out.later HS.out.1 hb
  clear hb M1
  unfold ov Tq.mk
  simp only []
  go_wp2_with fail
  obtain ⟨x3, t3, he, hx3, hr3, hK⟩ := Tq.kd_made Tq.bp_p (r := 100) (z := 1) (by decide) (by decide)
  refine (M2.out.doo HS.out.1 HS.out.2 (Tq.mk Tq.pP 0) 1 1 (fit_mk (by unfold maxLen; decide) (by decide)) x3 t3 he hK.fine).mono ?_
  rintro e w3 ⟨F3, v3, rfl, hsq, hof, hM, hmv⟩
  have M3 : Hid (Ks11 LT W w3 q t3 F3 (.slice none 0 0) 0 [] 0) := ⟨hM, hK, hr3, qr11_nil⟩
  clear hof hM hmv M2 he hx3 hr3 hK
  obtain ⟨a3, n3, c3, rfl, hj1, hj2⟩ := hsq
  clear hj1 hj2
  unfold rv
  go_wp2
  go_loopw [5, 6, 7, 8] (fun kd nx th i wr => ∃ (k n : Nat) (js : List Nat) (t : Tq.Tr) (F : Nat → Prop), k ≤ N ∧ n ≤ k ∧ kd = .int .i64 (k : Int) ∧ nx = .int .i64 (n : Int) ∧ i = .int .i64 (k : Int) ∧ Ks11 LT W wr q t F th n js (k : Int)) (fun _ _ _ i _ => N - (intOf i).toNat)
  case atStart => exact ⟨0, 0, [], t3, F3, Nat.zero_le _, Nat.le_refl _, rfl, rfl, rfl, M3.out⟩
  case round =>
    obtain ⟨k, n, js, t, F, hk, hnk, rfl, rfl, rfl, hM⟩ := hrel
    obtain ⟨ao, cap, hv7⟩ := hM.row.form
    have HR : Hid (Ks11 LT W wr q t F u7 n js (k : Int)) := hM
    clear hM M3
    obtain ⟨L, hL⟩ : ∃ L, L = (js.map (Tq.kid Tq.pPC)).length := ⟨_, rfl⟩
    rw [← hL] at hv7
    subst hv7
    have HL : Hid (L = js.length) := by
      have e : L = js.length := by rw [hL, List.length_map]
      exact e
    have hLn : L ≤ n := by have h1 := HR.out.kd.sum.2; have h2 := HL.out; omega
    clear hL
    by_cases hlt : k < N
    · have hlt' : (k : Int) < (N : Int) := by omega
      have hk0 : (0 : Int) ≤ (k : Int) := by omega
      have hwk : IntKind.wrap .i64 ((k : Int) + 1) = (k : Int) + 1 := by rw [IntKind.wrap_i64]; omega
      have hwn : IntKind.wrap .i64 ((n : Int) + 1) = (n : Int) + 1 := by rw [IntKind.wrap_i64]; omega
      obtain ⟨b, hb⟩ : ∃ b, l[k]? = some b := ⟨_, List.getElem?_eq_getElem (by have := HC.out.2; omega)⟩
      obtain ⟨g, o, hav, lx⟩ := HC.out.1 k b hb
      subst hav
      have lx' : wr.cell? ⟨g, o + k, none⟩ = some (.bool b) := Below.kept HR.out.mine.below lx
      clear hb lx
      cases b with
      | true =>
        go_wp2_with fail
        clear lx'
        refine (made_any11 Tq.pPC 2 wr).mono ?_
        rintro e w4 ⟨rfl, hb⟩
        have M4 : Hid (Ks11 LT W w4 q t F (.slice ao L cap) n js (k : Int)) := HR.out.later HS.out.1 hb
        clear hb HR
        unfold ov Tq.mk
        simp only []
        go_wp2_with fail
        obtain ⟨x5, t5, he5, hx5, hp5, hn5, hr5, hK5⟩ := M4.out.kd.push Tq.bp_p (by omega) (by rw [M4.out.kd.len, M4.out.room]; have := M4.out.kd.sum; omega) (s := 1) (z := 2) (by decide) (by decide)
        refine (M4.out.mine.doo HS.out.1 HS.out.2 (Tq.mk Tq.pPC 2) 1 2 (fit_mk (by unfold maxLen; decide) (by decide)) x5 t5 he5 hK5.fine).mono ?_
        rintro e w5 ⟨F5, v5, rfl, hsq, hof, hM, hmv⟩
        have M5 : Hid (Mine11 LT W w5 q t5 F5 ∧ Qr11 W w5 F5 (.slice ao L cap) (js.map (Tq.kid Tq.pPC))) := ⟨hM, M4.out.row.moved hmv⟩
        have HK5 : Hid (Tq.Kd Tq.pP Tq.pPC t5 (n + 1) (js ++ [n]) ((k : Int) + 1) 1 ∧ t5.room = 100) := ⟨hK5, by rw [hr5]; exact M4.out.room⟩
        have HX5 : Hid (x5.err = 0 ∧ x5.path = Tq.kid Tq.pPC n) := ⟨hx5, hp5⟩
        clear hof hM hmv M4 he5 hx5 hp5 hn5 hr5 hK5
        obtain ⟨a5, n5, c5, rfl, hj1, hj2⟩ := hsq
        clear hj1 hj2
        obtain ⟨q5, hq5⟩ : ∃ z, z = w5.heap.size := ⟨_, rfl⟩
        have hba := (Below.refl _ w5).alloc (Nat.le_refl _) (.cells #[.int .i64 x5.err, .string x5.path, .string x5.data, .slice a5 n5 c5, .int .i64 x5.made, .int .i64 x5.changed, .int .i64 x5.ver, .int .i64 x5.kids, .int .i64 x5.owner, .int .i64 x5.len, .int .i64 x5.cnt] 32)
        have M6 : Hid (Mine11 LT W (w5.alloc (.cells #[.int .i64 x5.err, .string x5.path, .string x5.data, .slice a5 n5 c5, .int .i64 x5.made, .int .i64 x5.changed, .int .i64 x5.ver, .int .i64 x5.kids, .int .i64 x5.owner, .int .i64 x5.len, .int .i64 x5.cnt] 32)) q t5 F5 ∧ Qr11 W (w5.alloc (.cells #[.int .i64 x5.err, .string x5.path, .string x5.data, .slice a5 n5 c5, .int .i64 x5.made, .int .i64 x5.changed, .int .i64 x5.ver, .int .i64 x5.kids, .int .i64 x5.owner, .int .i64 x5.len, .int .i64 x5.cnt] 32)) F5 (.slice ao L cap) (js.map (Tq.kid Tq.pPC)) ∧ Kept11 (w5.alloc (.cells #[.int .i64 x5.err, .string x5.path, .string x5.data, .slice a5 n5 c5, .int .i64 x5.made, .int .i64 x5.changed, .int .i64 x5.ver, .int .i64 x5.kids, .int .i64 x5.owner, .int .i64 x5.len, .int .i64 x5.cnt] 32)) F5 q5 (xc x5 (.slice a5 n5 c5)) 32) := ⟨M5.out.1.later HS.out.1 hba, M5.out.2.later hba, by rw [hq5]; exact Kept11.made w5 F5 (fun k hk => HS.out.1.lt M5.out.1.ld hk) _ _⟩
        clear hba M5
        unfold rv
        go_upto_region 14 with fail
        rw [← hq5]
        clear hq5
        generalize w5.alloc (.cells #[.int .i64 x5.err, .string x5.path, .string x5.data, .slice a5 n5 c5, .int .i64 x5.made, .int .i64 x5.changed, .int .i64 x5.ver, .int .i64 x5.kids, .int .i64 x5.owner, .int .i64 x5.len, .int .i64 x5.cnt] 32) = w6 at *
        obtain ⟨kp, hkp⟩ : ∃ z, z = Tq.kid Tq.pPC n := ⟨_, rfl⟩
        have HKP : Hid (kp = Tq.kid Tq.pPC n) := hkp
        have r0 : w6.cell? ⟨q5, 0, none⟩ = some (.int .i64 0) := by
          have h := M6.out.2.2.cb.cell 0
          rw [show (xc x5 (.slice a5 n5 c5))[0]? = some (.int .i64 x5.err) from rfl, HX5.out.1] at h
          exact h
        have r1 : w6.cell? ⟨q5, 1, none⟩ = some (.string kp) := by
          have h := M6.out.2.2.cb.cell 1
          rw [show (xc x5 (.slice a5 n5 c5))[1]? = some (.string x5.path) from rfl, HX5.out.2, ← hkp] at h
          exact h
        clear hkp
        obtain ⟨q6, hq6⟩ : ∃ z, z = w6.heap.size := ⟨_, rfl⟩
        have HW : Hid (Mine11 LT W (w6.alloc (.cells #[.string kp] 9)) q t5 F5 ∧ Qr11 W (w6.alloc (.cells #[.string kp] 9)) F5 (.slice ao L cap) (js.map (Tq.kid Tq.pPC)) ∧ (w6.alloc (.cells #[.string kp] 9)).cell? ⟨q6, 0, none⟩ = some (.string kp)) := by
          have hba := (Below.refl _ w6).alloc (Nat.le_refl _) (.cells #[.string kp] 9)
          exact ⟨M6.out.1.later HS.out.1 hba, M6.out.2.1.later hba, by rw [hq6]; exact ((Cb.made w6 [.string kp] 9).cell 0).trans rfl⟩
        have hl3 : (js.map (Tq.kid Tq.pPC)).length + 1 ≤ 3000 := by rw [List.length_map]; have := HL.out; omega
        go_wp2_with (at_builtin; rw [← hq6]; refine append_qr HS.out.1 rfl _ _ rfl W (w6.alloc (.cells #[.string kp] 9)) q t5 F5 (.slice ao L cap) (js.map (Tq.kid Tq.pPC)) q6 kp rfl rfl HW.out.1 HW.out.2.1 HW.out.2.2 hl3 ?_)
        intro v6 w7 hM7 hQ7
        clear r0 r1 hq6 hl3
        have e6 : js.map (Tq.kid Tq.pPC) ++ [kp] = (js ++ [n]).map (Tq.kid Tq.pPC) := by rw [HKP.out]; simp
        rw [e6] at hQ7
        clear e6
        have HA : Hid (Ks11 LT W w7 q t5 F5 v6 (n + 1) (js ++ [n]) ((k : Int) + 1)) := ⟨hM7, HK5.out.1, HK5.out.2, hQ7⟩
        obtain ⟨a6, c6, hv6⟩ := hQ7.form
        clear hM7 hQ7 HW M6 HK5 HX5 HKP
        obtain ⟨M, hM⟩ : ∃ M, M = ((js ++ [n]).map (Tq.kid Tq.pPC)).length := ⟨_, rfl⟩
        rw [← hM] at hv6
        have HML : Hid (M = (js ++ [n]).length) := by
          have e : M = (js ++ [n]).length := by rw [hM, List.length_map]
          exact e
        clear hM
        subst hv6
        go_wp2_with fail
        obtain ⟨m, hm1, hm2, hm3, hm4, hm5, hm6, hm7, hm8, hm9⟩ := HA.out.kd.par
        refine (HA.out.mine.node HS.out.1 Tq.pP (by unfold maxLen; decide)).mono ?_
        rintro e w8 ⟨F8, hN, hM, hmv⟩
        obtain ⟨u8, rfl, hsq, hof⟩ := hN.1 m hm1
        obtain ⟨ma, mL, mc, rfl, hj1, hj2⟩ := hsq
        have H8 : Hid (Ks11 LT W w8 q t5 F8 (.slice a6 M c6) (n + 1) (js ++ [n]) ((k : Int) + 1)) := ⟨hM, HA.out.kd, HA.out.room, HA.out.row.moved hmv⟩
        have HM8 : Hid (m.next = (n : Int) + 1 ∧ m.kids = (k : Int) + 1 ∧ m.cnt = (M : Int) ∧ m.ver = 0 ∧ m.changed = 1) := ⟨by rw [hm3]; try rfl, hm4, by rw [hm5, hm8, HML.out], hm6, hm7⟩
        clear hN hM hmv hof hj1 hj2 hm1 hm2 hm3 hm4 hm5 hm6 hm7 hm8 hm9 HA HML
        obtain ⟨q8, hq8⟩ : ∃ z, z = w8.heap.size := ⟨_, rfl⟩
        have H9 : Hid (Ks11 LT W (w8.alloc (.cells #[.int .i64 m.made, .int .i64 m.changed, .int .i64 m.ver, .int .i64 m.kids, .int .i64 m.owner, .int .i64 m.len, .int .i64 m.cnt, .string m.data, .int .i64 m.next, .slice ma mL mc] 39)) q t5 F8 (.slice a6 M c6) (n + 1) (js ++ [n]) ((k : Int) + 1) ∧ Cb (w8.alloc (.cells #[.int .i64 m.made, .int .i64 m.changed, .int .i64 m.ver, .int .i64 m.kids, .int .i64 m.owner, .int .i64 m.len, .int .i64 m.cnt, .string m.data, .int .i64 m.next, .slice ma mL mc] 39)) q8 (k10 m (.slice ma mL mc)) 39) := ⟨H8.out.later HS.out.1 ((Below.refl _ w8).alloc (Nat.le_refl _) _), by rw [hq8]; exact Cb.made w8 (k10 m (.slice ma mL mc)) 39⟩
        clear H8
        unfold kv
        go_upto_region 23 with fail
        rw [← hq8]
        clear hq8
        generalize w8.alloc (.cells #[.int .i64 m.made, .int .i64 m.changed, .int .i64 m.ver, .int .i64 m.kids, .int .i64 m.owner, .int .i64 m.len, .int .i64 m.cnt, .string m.data, .int .i64 m.next, .slice ma mL mc] 39) = w9 at *
        have z1 : w9.cell? ⟨q8, 1, none⟩ = some (.int .i64 1) := by rw [H9.out.2.cell 1, ← HM8.out.2.2.2.2]; rfl
        have z2 : w9.cell? ⟨q8, 2, none⟩ = some (.int .i64 0) := by rw [H9.out.2.cell 2, ← HM8.out.2.2.2.1]; rfl
        have z3 : w9.cell? ⟨q8, 3, none⟩ = some (.int .i64 ((k : Int) + 1)) := by rw [H9.out.2.cell 3, ← HM8.out.2.1]; rfl
        have z6 : w9.cell? ⟨q8, 6, none⟩ = some (.int .i64 (M : Int)) := by rw [H9.out.2.cell 6, ← HM8.out.2.2.1]; rfl
        have z8 : w9.cell? ⟨q8, 8, none⟩ = some (.int .i64 ((n : Int) + 1)) := by rw [H9.out.2.cell 8, ← HM8.out.1]; rfl
        clear HM8
        go_wp2
        go_roundw
        case rel => exact ⟨k + 1, (n + 1), js ++ [n], t5, F8, by omega, by omega, by go_num, by first | rfl | go_num, by go_num, by
          have h := H9.out.1
          rw [show (k : Int) + 1 = ((k + 1 : Nat) : Int) by omega] at h
          first
            | exact h
            | (have hM0 : M = 0 := by omega
               rw [hM0] at h
               exact h)⟩
        case measure => simp [intOf]; omega
      | false =>
        by_cases hL0 : L = 0
        · have hL0' : ((L : Int) == 0) = true := by rw [hL0]; rfl
          clear hL0
          go_wp2_with fail
          clear lx'
          refine (made_any11 Tq.pPC 2 wr).mono ?_
          rintro e w4 ⟨rfl, hb⟩
          have M4 : Hid (Ks11 LT W w4 q t F (.slice ao L cap) n js (k : Int)) := HR.out.later HS.out.1 hb
          clear hb HR
          unfold ov Tq.mk
          simp only []
          go_wp2_with fail
          obtain ⟨x5, t5, he5, hx5, hp5, hn5, hr5, hK5⟩ := M4.out.kd.push Tq.bp_p (by omega) (by rw [M4.out.kd.len, M4.out.room]; have := M4.out.kd.sum; omega) (s := 1) (z := 2) (by decide) (by decide)
          refine (M4.out.mine.doo HS.out.1 HS.out.2 (Tq.mk Tq.pPC 2) 1 2 (fit_mk (by unfold maxLen; decide) (by decide)) x5 t5 he5 hK5.fine).mono ?_
          rintro e w5 ⟨F5, v5, rfl, hsq, hof, hM, hmv⟩
          have M5 : Hid (Mine11 LT W w5 q t5 F5 ∧ Qr11 W w5 F5 (.slice ao L cap) (js.map (Tq.kid Tq.pPC))) := ⟨hM, M4.out.row.moved hmv⟩
          have HK5 : Hid (Tq.Kd Tq.pP Tq.pPC t5 (n + 1) (js ++ [n]) ((k : Int) + 1) 1 ∧ t5.room = 100) := ⟨hK5, by rw [hr5]; exact M4.out.room⟩
          have HX5 : Hid (x5.err = 0 ∧ x5.path = Tq.kid Tq.pPC n) := ⟨hx5, hp5⟩
          clear hof hM hmv M4 he5 hx5 hp5 hn5 hr5 hK5
          obtain ⟨a5, n5, c5, rfl, hj1, hj2⟩ := hsq
          clear hj1 hj2
          obtain ⟨q5, hq5⟩ : ∃ z, z = w5.heap.size := ⟨_, rfl⟩
          have hba := (Below.refl _ w5).alloc (Nat.le_refl _) (.cells #[.int .i64 x5.err, .string x5.path, .string x5.data, .slice a5 n5 c5, .int .i64 x5.made, .int .i64 x5.changed, .int .i64 x5.ver, .int .i64 x5.kids, .int .i64 x5.owner, .int .i64 x5.len, .int .i64 x5.cnt] 32)
          have M6 : Hid (Mine11 LT W (w5.alloc (.cells #[.int .i64 x5.err, .string x5.path, .string x5.data, .slice a5 n5 c5, .int .i64 x5.made, .int .i64 x5.changed, .int .i64 x5.ver, .int .i64 x5.kids, .int .i64 x5.owner, .int .i64 x5.len, .int .i64 x5.cnt] 32)) q t5 F5 ∧ Qr11 W (w5.alloc (.cells #[.int .i64 x5.err, .string x5.path, .string x5.data, .slice a5 n5 c5, .int .i64 x5.made, .int .i64 x5.changed, .int .i64 x5.ver, .int .i64 x5.kids, .int .i64 x5.owner, .int .i64 x5.len, .int .i64 x5.cnt] 32)) F5 (.slice ao L cap) (js.map (Tq.kid Tq.pPC)) ∧ Kept11 (w5.alloc (.cells #[.int .i64 x5.err, .string x5.path, .string x5.data, .slice a5 n5 c5, .int .i64 x5.made, .int .i64 x5.changed, .int .i64 x5.ver, .int .i64 x5.kids, .int .i64 x5.owner, .int .i64 x5.len, .int .i64 x5.cnt] 32)) F5 q5 (xc x5 (.slice a5 n5 c5)) 32) := ⟨M5.out.1.later HS.out.1 hba, M5.out.2.later hba, by rw [hq5]; exact Kept11.made w5 F5 (fun k hk => HS.out.1.lt M5.out.1.ld hk) _ _⟩
          clear hba M5
          unfold rv
          go_upto_region 14 with fail
          rw [← hq5]
          clear hq5
          generalize w5.alloc (.cells #[.int .i64 x5.err, .string x5.path, .string x5.data, .slice a5 n5 c5, .int .i64 x5.made, .int .i64 x5.changed, .int .i64 x5.ver, .int .i64 x5.kids, .int .i64 x5.owner, .int .i64 x5.len, .int .i64 x5.cnt] 32) = w6 at *
          obtain ⟨kp, hkp⟩ : ∃ z, z = Tq.kid Tq.pPC n := ⟨_, rfl⟩
          have HKP : Hid (kp = Tq.kid Tq.pPC n) := hkp
          have r0 : w6.cell? ⟨q5, 0, none⟩ = some (.int .i64 0) := by
            have h := M6.out.2.2.cb.cell 0
            rw [show (xc x5 (.slice a5 n5 c5))[0]? = some (.int .i64 x5.err) from rfl, HX5.out.1] at h
            exact h
          have r1 : w6.cell? ⟨q5, 1, none⟩ = some (.string kp) := by
            have h := M6.out.2.2.cb.cell 1
            rw [show (xc x5 (.slice a5 n5 c5))[1]? = some (.string x5.path) from rfl, HX5.out.2, ← hkp] at h
            exact h
          clear hkp
          obtain ⟨q6, hq6⟩ : ∃ z, z = w6.heap.size := ⟨_, rfl⟩
          have HW : Hid (Mine11 LT W (w6.alloc (.cells #[.string kp] 9)) q t5 F5 ∧ Qr11 W (w6.alloc (.cells #[.string kp] 9)) F5 (.slice ao L cap) (js.map (Tq.kid Tq.pPC)) ∧ (w6.alloc (.cells #[.string kp] 9)).cell? ⟨q6, 0, none⟩ = some (.string kp)) := by
            have hba := (Below.refl _ w6).alloc (Nat.le_refl _) (.cells #[.string kp] 9)
            exact ⟨M6.out.1.later HS.out.1 hba, M6.out.2.1.later hba, by rw [hq6]; exact ((Cb.made w6 [.string kp] 9).cell 0).trans rfl⟩
          have hl3 : (js.map (Tq.kid Tq.pPC)).length + 1 ≤ 3000 := by rw [List.length_map]; have := HL.out; omega
          go_wp2_with (at_builtin; rw [← hq6]; refine append_qr HS.out.1 rfl _ _ rfl W (w6.alloc (.cells #[.string kp] 9)) q t5 F5 (.slice ao L cap) (js.map (Tq.kid Tq.pPC)) q6 kp rfl rfl HW.out.1 HW.out.2.1 HW.out.2.2 hl3 ?_)
          intro v6 w7 hM7 hQ7
          clear r0 r1 hq6 hl3
          have e6 : js.map (Tq.kid Tq.pPC) ++ [kp] = (js ++ [n]).map (Tq.kid Tq.pPC) := by rw [HKP.out]; simp
          rw [e6] at hQ7
          clear e6
          have HA : Hid (Ks11 LT W w7 q t5 F5 v6 (n + 1) (js ++ [n]) ((k : Int) + 1)) := ⟨hM7, HK5.out.1, HK5.out.2, hQ7⟩
          obtain ⟨a6, c6, hv6⟩ := hQ7.form
          clear hM7 hQ7 HW M6 HK5 HX5 HKP
          obtain ⟨M, hM⟩ : ∃ M, M = ((js ++ [n]).map (Tq.kid Tq.pPC)).length := ⟨_, rfl⟩
          rw [← hM] at hv6
          have HML : Hid (M = (js ++ [n]).length) := by
            have e : M = (js ++ [n]).length := by rw [hM, List.length_map]
            exact e
          clear hM
          subst hv6
          go_wp2_with fail
          obtain ⟨m, hm1, hm2, hm3, hm4, hm5, hm6, hm7, hm8, hm9⟩ := HA.out.kd.par
          refine (HA.out.mine.node HS.out.1 Tq.pP (by unfold maxLen; decide)).mono ?_
          rintro e w8 ⟨F8, hN, hM, hmv⟩
          obtain ⟨u8, rfl, hsq, hof⟩ := hN.1 m hm1
          obtain ⟨ma, mL, mc, rfl, hj1, hj2⟩ := hsq
          have H8 : Hid (Ks11 LT W w8 q t5 F8 (.slice a6 M c6) (n + 1) (js ++ [n]) ((k : Int) + 1)) := ⟨hM, HA.out.kd, HA.out.room, HA.out.row.moved hmv⟩
          have HM8 : Hid (m.next = (n : Int) + 1 ∧ m.kids = (k : Int) + 1 ∧ m.cnt = (M : Int) ∧ m.ver = 0 ∧ m.changed = 1) := ⟨by rw [hm3]; try rfl, hm4, by rw [hm5, hm8, HML.out], hm6, hm7⟩
          clear hN hM hmv hof hj1 hj2 hm1 hm2 hm3 hm4 hm5 hm6 hm7 hm8 hm9 HA HML
          obtain ⟨q8, hq8⟩ : ∃ z, z = w8.heap.size := ⟨_, rfl⟩
          have H9 : Hid (Ks11 LT W (w8.alloc (.cells #[.int .i64 m.made, .int .i64 m.changed, .int .i64 m.ver, .int .i64 m.kids, .int .i64 m.owner, .int .i64 m.len, .int .i64 m.cnt, .string m.data, .int .i64 m.next, .slice ma mL mc] 39)) q t5 F8 (.slice a6 M c6) (n + 1) (js ++ [n]) ((k : Int) + 1) ∧ Cb (w8.alloc (.cells #[.int .i64 m.made, .int .i64 m.changed, .int .i64 m.ver, .int .i64 m.kids, .int .i64 m.owner, .int .i64 m.len, .int .i64 m.cnt, .string m.data, .int .i64 m.next, .slice ma mL mc] 39)) q8 (k10 m (.slice ma mL mc)) 39) := ⟨H8.out.later HS.out.1 ((Below.refl _ w8).alloc (Nat.le_refl _) _), by rw [hq8]; exact Cb.made w8 (k10 m (.slice ma mL mc)) 39⟩
          clear H8
          unfold kv
          go_upto_region 23 with fail
          rw [← hq8]
          clear hq8
          generalize w8.alloc (.cells #[.int .i64 m.made, .int .i64 m.changed, .int .i64 m.ver, .int .i64 m.kids, .int .i64 m.owner, .int .i64 m.len, .int .i64 m.cnt, .string m.data, .int .i64 m.next, .slice ma mL mc] 39) = w9 at *
          have z1 : w9.cell? ⟨q8, 1, none⟩ = some (.int .i64 1) := by rw [H9.out.2.cell 1, ← HM8.out.2.2.2.2]; rfl
          have z2 : w9.cell? ⟨q8, 2, none⟩ = some (.int .i64 0) := by rw [H9.out.2.cell 2, ← HM8.out.2.2.2.1]; rfl
          have z3 : w9.cell? ⟨q8, 3, none⟩ = some (.int .i64 ((k : Int) + 1)) := by rw [H9.out.2.cell 3, ← HM8.out.2.1]; rfl
          have z6 : w9.cell? ⟨q8, 6, none⟩ = some (.int .i64 (M : Int)) := by rw [H9.out.2.cell 6, ← HM8.out.2.2.1]; rfl
          have z8 : w9.cell? ⟨q8, 8, none⟩ = some (.int .i64 ((n : Int) + 1)) := by rw [H9.out.2.cell 8, ← HM8.out.1]; rfl
          clear HM8
          go_wp2
          go_roundw
          case rel => exact ⟨k + 1, (n + 1), js ++ [n], t5, F8, by omega, by omega, by go_num, by first | rfl | go_num, by go_num, by
            have h := H9.out.1
            rw [show (k : Int) + 1 = ((k + 1 : Nat) : Int) by omega] at h
            first
              | exact h
              | (have hM0 : M = 0 := by omega
                 rw [hM0] at h
                 exact h)⟩
          case measure => simp [intOf]; omega
        · have hL0' : ((L : Int) == 0) = false := by simpa using hL0
          obtain ⟨j, rest, hjs⟩ : ∃ j rest, js = j :: rest := by
            cases hjs : js with
            | nil => have h := HL.out; rw [hjs] at h; exact absurd h hL0
            | cons j rest => exact ⟨j, rest, rfl⟩
          subst hjs
          obtain ⟨hb, ho, c1, hv, hc1, hcell, hq⟩ := HR.out.row.head
          obtain ⟨M, hM⟩ : ∃ M, M = (rest.map (Tq.kid Tq.pPC)).length := ⟨_, rfl⟩
          have HML : Hid (M = rest.length) := by
            have e : M = rest.length := by rw [hM, List.length_map]
            exact e
          rw [← hM] at hv hc1 hq
          simp only [Value.slice.injEq] at hv
          obtain ⟨rfl, rfl, rfl⟩ := hv
          obtain ⟨kp, hkp⟩ : ∃ z, z = Tq.kid Tq.pPC j := ⟨_, rfl⟩
          have HKP : Hid (kp = Tq.kid Tq.pPC j) := hkp
          rw [← hkp] at hcell
          have HQ : Hid (Qr11 W wr F (.slice (some ⟨hb, ho + 1, none⟩) M c1) (rest.map (Tq.kid Tq.pPC))) := hq
          clear hkp hq hM
          go_wp2_with fail
          clear lx' hcell
          have hjn := HR.out.kd.lt j (by simp)
          obtain ⟨t7, he7, hr7, hK7⟩ := HR.out.kd.pop Tq.bp_p (by omega) (j := j) (by simp) (v := -1) (s := 1) (z := 3) (Or.inl rfl) (by decide) (by decide)
          rw [← HKP.out] at he7
          rw [List.erase_cons_head] at hK7
          refine (HR.out.mine.doo HS.out.1 HS.out.2 (Tq.dl kp (-1)) 1 3 (fit_dl (by rw [HKP.out]; exact kid_size Tq.bp_p (by omega)) (by decide)) (Tq.gone kp) t7 he7 hK7.fine).mono ?_
          rintro e w7 ⟨F7, v7, rfl, hsq, hof, hM, hmv⟩
          have HA : Hid (Ks11 LT W w7 q t7 F7 (.slice (some ⟨hb, ho + 1, none⟩) M c1) n rest ((k : Int) + 1)) := ⟨hM, hK7, by rw [hr7]; exact HR.out.room, HQ.out.moved hmv⟩
          clear hof hM hmv he7 hr7 hK7 HR HQ HKP hjn
          obtain ⟨a7, n7, c7, rfl, hj1, hj2⟩ := hsq
          clear hj1 hj2
          unfold rv Tq.gone
          simp only []
          have hf0 : ∀ (a : Option Addr) (k c : Nat) (w : World), (Instr.field 32 (.agg #[.int .i64 0, .string kp, .string ⟨#[]⟩, .slice a k c, .int .i64 0, .int .i64 0, .int .i64 0, .int .i64 0, .int .i64 0, .int .i64 0, .int .i64 0]) 0).run Tryd.prog w = .ok (.int .i64 0) w := fun _ _ _ _ => by kernel_rfl
          by_cases hc0 : c1 = 0
          · subst hc0
            replace HA : Hid (Ks11 LT W w7 q t7 F7 (.slice (some ⟨hb, ho, none⟩) M 0) n rest ((k : Int) + 1)) := ⟨HA.out.mine, HA.out.kd, HA.out.room, HA.out.row.bare _⟩
            go_wp2_with fail
            obtain ⟨m, hm1, hm2, hm3, hm4, hm5, hm6, hm7, hm8, hm9⟩ := HA.out.kd.par
            refine (HA.out.mine.node HS.out.1 Tq.pP (by unfold maxLen; decide)).mono ?_
            rintro e w8 ⟨F8, hN, hM, hmv⟩
            obtain ⟨u8, rfl, hsq, hof⟩ := hN.1 m hm1
            obtain ⟨ma, mL, mc, rfl, hj1, hj2⟩ := hsq
            have H8 : Hid (Ks11 LT W w8 q t7 F8 (.slice (some ⟨hb, ho, none⟩) M 0) n (rest) ((k : Int) + 1)) := ⟨hM, HA.out.kd, HA.out.room, HA.out.row.moved hmv⟩
            have HM8 : Hid (m.next = (n : Int) ∧ m.kids = (k : Int) + 1 ∧ m.cnt = (M : Int) ∧ m.ver = 0 ∧ m.changed = 1) := ⟨by rw [hm3]; try rfl, hm4, by rw [hm5, hm8, HML.out], hm6, hm7⟩
            clear hN hM hmv hof hj1 hj2 hm1 hm2 hm3 hm4 hm5 hm6 hm7 hm8 hm9 HA HML
            obtain ⟨q8, hq8⟩ : ∃ z, z = w8.heap.size := ⟨_, rfl⟩
            have H9 : Hid (Ks11 LT W (w8.alloc (.cells #[.int .i64 m.made, .int .i64 m.changed, .int .i64 m.ver, .int .i64 m.kids, .int .i64 m.owner, .int .i64 m.len, .int .i64 m.cnt, .string m.data, .int .i64 m.next, .slice ma mL mc] 39)) q t7 F8 (.slice (some ⟨hb, ho, none⟩) M 0) n (rest) ((k : Int) + 1) ∧ Cb (w8.alloc (.cells #[.int .i64 m.made, .int .i64 m.changed, .int .i64 m.ver, .int .i64 m.kids, .int .i64 m.owner, .int .i64 m.len, .int .i64 m.cnt, .string m.data, .int .i64 m.next, .slice ma mL mc] 39)) q8 (k10 m (.slice ma mL mc)) 39) := ⟨H8.out.later HS.out.1 ((Below.refl _ w8).alloc (Nat.le_refl _) _), by rw [hq8]; exact Cb.made w8 (k10 m (.slice ma mL mc)) 39⟩
            clear H8
            unfold kv
            go_upto_region 23 with fail
            rw [← hq8]
            clear hq8
            generalize w8.alloc (.cells #[.int .i64 m.made, .int .i64 m.changed, .int .i64 m.ver, .int .i64 m.kids, .int .i64 m.owner, .int .i64 m.len, .int .i64 m.cnt, .string m.data, .int .i64 m.next, .slice ma mL mc] 39) = w9 at *
            have z1 : w9.cell? ⟨q8, 1, none⟩ = some (.int .i64 1) := by rw [H9.out.2.cell 1, ← HM8.out.2.2.2.2]; rfl
            have z2 : w9.cell? ⟨q8, 2, none⟩ = some (.int .i64 0) := by rw [H9.out.2.cell 2, ← HM8.out.2.2.2.1]; rfl
            have z3 : w9.cell? ⟨q8, 3, none⟩ = some (.int .i64 ((k : Int) + 1)) := by rw [H9.out.2.cell 3, ← HM8.out.2.1]; rfl
            have z6 : w9.cell? ⟨q8, 6, none⟩ = some (.int .i64 (M : Int)) := by rw [H9.out.2.cell 6, ← HM8.out.2.2.1]; rfl
            have z8 : w9.cell? ⟨q8, 8, none⟩ = some (.int .i64 ((n : Int))) := by rw [H9.out.2.cell 8, ← HM8.out.1]; rfl
            clear HM8
            go_wp2
            go_roundw
            case rel => exact ⟨k + 1, n, rest, t7, F8, by omega, by omega, by go_num, by first | rfl | go_num, by go_num, by
              have h := H9.out.1
              rw [show (k : Int) + 1 = ((k + 1 : Nat) : Int) by omega] at h
              first
                | exact h
                | (have hM0 : M = 0 := by omega
                   rw [hM0] at h
                   exact h)⟩
            case measure => simp [intOf]; omega
          · skip
            go_wp2_with fail
            obtain ⟨m, hm1, hm2, hm3, hm4, hm5, hm6, hm7, hm8, hm9⟩ := HA.out.kd.par
            refine (HA.out.mine.node HS.out.1 Tq.pP (by unfold maxLen; decide)).mono ?_
            rintro e w8 ⟨F8, hN, hM, hmv⟩
            obtain ⟨u8, rfl, hsq, hof⟩ := hN.1 m hm1
            obtain ⟨ma, mL, mc, rfl, hj1, hj2⟩ := hsq
            have H8 : Hid (Ks11 LT W w8 q t7 F8 (.slice (some ⟨hb, ho + 1, none⟩) M c1) n (rest) ((k : Int) + 1)) := ⟨hM, HA.out.kd, HA.out.room, HA.out.row.moved hmv⟩
            have HM8 : Hid (m.next = (n : Int) ∧ m.kids = (k : Int) + 1 ∧ m.cnt = (M : Int) ∧ m.ver = 0 ∧ m.changed = 1) := ⟨by rw [hm3]; try rfl, hm4, by rw [hm5, hm8, HML.out], hm6, hm7⟩
            clear hN hM hmv hof hj1 hj2 hm1 hm2 hm3 hm4 hm5 hm6 hm7 hm8 hm9 HA HML
            obtain ⟨q8, hq8⟩ : ∃ z, z = w8.heap.size := ⟨_, rfl⟩
            have H9 : Hid (Ks11 LT W (w8.alloc (.cells #[.int .i64 m.made, .int .i64 m.changed, .int .i64 m.ver, .int .i64 m.kids, .int .i64 m.owner, .int .i64 m.len, .int .i64 m.cnt, .string m.data, .int .i64 m.next, .slice ma mL mc] 39)) q t7 F8 (.slice (some ⟨hb, ho + 1, none⟩) M c1) n (rest) ((k : Int) + 1) ∧ Cb (w8.alloc (.cells #[.int .i64 m.made, .int .i64 m.changed, .int .i64 m.ver, .int .i64 m.kids, .int .i64 m.owner, .int .i64 m.len, .int .i64 m.cnt, .string m.data, .int .i64 m.next, .slice ma mL mc] 39)) q8 (k10 m (.slice ma mL mc)) 39) := ⟨H8.out.later HS.out.1 ((Below.refl _ w8).alloc (Nat.le_refl _) _), by rw [hq8]; exact Cb.made w8 (k10 m (.slice ma mL mc)) 39⟩
            clear H8
            unfold kv
            go_upto_region 23 with fail
            rw [← hq8]
            clear hq8
            generalize w8.alloc (.cells #[.int .i64 m.made, .int .i64 m.changed, .int .i64 m.ver, .int .i64 m.kids, .int .i64 m.owner, .int .i64 m.len, .int .i64 m.cnt, .string m.data, .int .i64 m.next, .slice ma mL mc] 39) = w9 at *
            have z1 : w9.cell? ⟨q8, 1, none⟩ = some (.int .i64 1) := by rw [H9.out.2.cell 1, ← HM8.out.2.2.2.2]; rfl
            have z2 : w9.cell? ⟨q8, 2, none⟩ = some (.int .i64 0) := by rw [H9.out.2.cell 2, ← HM8.out.2.2.2.1]; rfl
            have z3 : w9.cell? ⟨q8, 3, none⟩ = some (.int .i64 ((k : Int) + 1)) := by rw [H9.out.2.cell 3, ← HM8.out.2.1]; rfl
            have z6 : w9.cell? ⟨q8, 6, none⟩ = some (.int .i64 (M : Int)) := by rw [H9.out.2.cell 6, ← HM8.out.2.2.1]; rfl
            have z8 : w9.cell? ⟨q8, 8, none⟩ = some (.int .i64 ((n : Int))) := by rw [H9.out.2.cell 8, ← HM8.out.1]; rfl
            clear HM8
            go_wp2
            go_roundw
            case rel => exact ⟨k + 1, n, rest, t7, F8, by omega, by omega, by go_num, by first | rfl | go_num, by go_num, by
              have h := H9.out.1
              rw [show (k : Int) + 1 = ((k + 1 : Nat) : Int) by omega] at h
              first
                | exact h
                | (have hM0 : M = 0 := by omega
                   rw [hM0] at h
                   exact h)⟩
            case measure => simp [intOf]; omega
    · have hlt' : ¬ (k : Int) < (N : Int) := by omega
      go_wp2
      go_ret
      exact ⟨rfl, HR.out.mine.below⟩
end Go.Proofs.YtfcbdjjbchcpjaaDoor
