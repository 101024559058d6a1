/- TreeVersions: its walk. -/
import Derived.Test.YtfcbdjjbchcpjaaDoorLAwake11
import Derived.Test.YtfcbdjjbchcpjaaDoorBas
namespace Go.Proofs.YtfcbdjjbchcpjaaDoor.Tq
open Kq
theorem pA_good : Pl.goodB pA.data.toList = true := by kernel_rfl
theorem pA_up : up pA = none := by kernel_rfl
/-- A tree of one node, `/a`, of this version. -/
structure Vs (t : Tr) (v : Nat) : Prop where
  room : t.room = 10
  one : ∃ n, t.l = [(pA, n)] ∧ n.ver = (v : Int) ∧ n.names = []
  fine : Fine11 t
theorem find_one {n : Kn} : find [(pA, n)] pA = some n := by rw [find_cons, if_pos rfl]
theorem Vs.few {t : Tr} {v : Nat} (h : Vs t v) : Few t 0 := fun e he => by
  obtain ⟨n, h1, _, h3⟩ := h.one
  rw [h1] at he
  simp at he
  rw [he, h3]
  exact Nat.le_refl _
theorem vs_made {z : Int} (hz : 0 ≤ z) : ∃ x t, doo ⟨10, []⟩ (mk pA 0) 1 z = (x, t) ∧ x.err = 0 ∧ x.names = [] ∧ Vs t 0 := by
  have e : doo ⟨10, []⟩ (mk pA 0) 1 z = (told pA ⟨#[]⟩ [] (new z 0 ⟨#[]⟩), ⟨10, [(pA, new z 0 ⟨#[]⟩)]⟩) := by
    rw [doo_top pA_good (Or.inl rfl) pA_up (by decide) hz, make_yes (by rfl) (by decide)]
    rfl
  refine ⟨_, _, e, rfl, rfl, rfl, ⟨_, rfl, rfl, rfl⟩, ?_⟩
  have h := fine_doo (o := mk pA 0) (s := 1) (z := z) (fine11_new (n := 10) (by decide)) ((few_new 10).more (by decide))
  rw [e] at h
  exact h
theorem Vs.set {t : Tr} {v : Nat} (h : Vs t v) (hv : v < 2147483647) : ∃ x t', doo t (st pA ⟨#[]⟩ (v : Int)) 1 2 = (x, t') ∧ x.err = 0 ∧ x.names = [] ∧ Vs t' (v + 1) := by
  obtain ⟨n, h1, h2, h3⟩ := h.one
  have hf : find t.l pA = some n := by rw [h1]; exact find_one
  have e := doo_set (d := ⟨#[]⟩) (v := (v : Int)) (s := 1) (z := 2) pA_good (by decide) (by omega) (by decide) (by decide) hf (Or.inr h2.symm)
  have hfi := fine_doo (o := st pA ⟨#[]⟩ (v : Int)) (s := 1) (z := 2) h.fine (h.few.more (by decide))
  rw [e] at hfi
  refine ⟨_, _, e, rfl, rfl, h.room, ⟨write n 2 ⟨#[]⟩, ?_, ?_, h3⟩, hfi⟩
  · show Tq.set t.l pA _ = _
    rw [h1]
    unfold Tq.set
    simp
  · show more n.ver = ((v + 1 : Nat) : Int)
    rw [h2]
    unfold more
    rw [if_neg (by omega)]
    omega
theorem Vs.set_no {t : Tr} {v : Nat} (h : Vs t v) {a : Int} (h0 : 0 ≤ a) (ha : a ≠ (v : Int)) : doo t (st pA ⟨#[]⟩ a) 1 2 = (fail 6, t) := by
  obtain ⟨n, h1, h2, h3⟩ := h.one
  have hf : find t.l pA = some n := by rw [h1]; exact find_one
  exact doo_set_no pA_good (by decide) (by omega) (by decide) (by decide) hf (by omega) (by omega)
theorem Vs.del {t : Tr} {v : Nat} (h : Vs t v) : doo t (dl pA (v : Int)) 1 2 = (gone pA, ⟨10, []⟩) := by
  obtain ⟨n, h1, h2, h3⟩ := h.one
  have hf : find t.l pA = some n := by rw [h1]; exact find_one
  rw [doo_del pA_good (by omega) (by decide) (by decide) hf (Or.inr h2.symm) h3]
  have e1 : orphan (Tq.del t.l pA) pA = [] := by
    unfold orphan
    rw [pA_up, h1]
    unfold Tq.del
    simp
  rw [e1]
  obtain ⟨r, l⟩ := t
  have hr : r = 10 := h.room
  rw [hr]
theorem Vs.exists_ {t : Tr} {v : Nat} (h : Vs t v) : ∃ x, doo t (ex pA) 1 4 = (x, t) ∧ x.err = 0 ∧ x.names = [] ∧ x.ver = (v : Int) := by
  obtain ⟨n, h1, h2, h3⟩ := h.one
  have hf : find t.l pA = some n := by rw [h1]; exact find_one
  exact ⟨_, doo_ex pA_good (by decide) (by decide) hf, rfl, rfl, h2⟩
end Go.Proofs.YtfcbdjjbchcpjaaDoor.Tq
namespace Go.Proofs.YtfcbdjjbchcpjaaDoor
open Go.RowKit

theorem field_err (x : X) (a : Option Addr) (k c : Nat) (w : World) : (Instr.field 32 (.agg #[.int .i64 x.err, .string x.path, .string x.data, .slice a k c, .int .i64 x.made, .int .i64 x.changed, .int .i64 x.ver, .int .i64 x.kids, .int .i64 x.owner, .int .i64 x.len, .int .i64 x.cnt]) 0).run Tryd.prog w = .ok (.int .i64 x.err) w := by kernel_rfl
theorem fit_st {p d : ByteArray} {v : Int} (hp : p.size ≤ maxLen) (hd : d.size ≤ maxLen) (hv : -9223372036854775808 ≤ v ∧ v ≤ 9223372036854775807) : OFit (Tq.st p d v) := ⟨by simp [Tq.st], hp, hd, hv, by simp [Tq.st]⟩
theorem fit_dl {p : ByteArray} {v : Int} (hp : p.size ≤ maxLen) (hv : -9223372036854775808 ≤ v ∧ v ≤ 9223372036854775807) : OFit (Tq.dl p v) := ⟨by simp [Tq.dl], hp, by simp [Tq.dl, maxLen, ByteArray.size], hv, by simp [Tq.dl]⟩
theorem fit_ex {p : ByteArray} (hp : p.size ≤ maxLen) : OFit (Tq.ex p) := ⟨by simp [Tq.ex], hp, by simp [Tq.ex, maxLen, ByteArray.size], by simp [Tq.ex], by simp [Tq.ex]⟩
theorem pA_size : Tq.pA.size ≤ maxLen := by unfold maxLen; decide

set_option maxRecDepth 20000 in
set_option maxHeartbeats 4000000 in
theorem versions_any11 {LT : Rep11} (S : Specs11 LT) (u : Value) (l : List Bool) (W : World) (hS : Pa.Std W) (hu : Bb W u l) (hl : l.length ≤ maxLen) :
    Calls Tryd.prog 4 #[u] W fun e w' => e = .returned (.bool true) ∧ Below W.heap.size W w' := by
  have HS : Hid (Specs11 LT ∧ Pa.Std W) := ⟨S, hS⟩
  have hfe := field_err
  obtain ⟨av, N, c, rfl, hk, hc⟩ := hu
  have HC : Hid ((∀ (j : Nat) t, l[j]? = some t → ∃ g o, av = some ⟨g, o, none⟩ ∧ W.cell? ⟨g, o + j, none⟩ = some (.bool t)) ∧ N = l.length) := ⟨hc, hk⟩
  have hN1 : N ≤ 9223372036854775807 := by unfold maxLen at hl; omega
  clear S hS hc hk hl
  go_enter Tryd.func4, Tryd.ntmps4
  go_wp2_with fail
  refine (awake_any11 HS.out.1 W HS.out.2).mono ?_
  rintro e w0 ⟨rfl, hb⟩
  have B0 : Hid (Below W.heap.size W w0) := hb
  clear hb
  by_cases h50 : 50 < N
  · have h50' : (50 : Int) < (N : Int) := by omega
    go_wp2
    go_ret
    exact ⟨rfl, B0.out⟩
  have h50' : ¬ (50 : Int) < (N : Int) := by omega
  go_wp2_with fail
  refine (Mine11.made HS.out.1 10 (by decide) B0.out).mono ?_
  rintro e w1 ⟨q, F1, rfl, hM, hb⟩
  have M1 : Hid (Mine11 LT W w1 q ⟨10, []⟩ F1) := hM
  clear hM hb B0
  go_wp2_with fail
  refine (made_any11 Tq.pA 0 w1).mono ?_
  rintro e w2 ⟨rfl, hb⟩
  have M2 : Hid (Mine11 LT W w2 q ⟨10, []⟩ F1) := M1.out.later HS.out.1 hb
  clear hb M1
  unfold ov Tq.mk
  simp only []
  go_wp2_with fail
  obtain ⟨x3, t3, he, hx3, hn3, hV⟩ := Tq.vs_made (z := 1) (by decide)
  refine (M2.out.doo HS.out.1 HS.out.2 (Tq.mk Tq.pA 0) 1 1 (fit_mk pA_size (by decide)) x3 t3 he hV.fine).mono ?_
  rintro e w3 ⟨F3, v3, rfl, hsq, hof, hM, hmv⟩
  have M3 : Hid (Mine11 LT W w3 q t3 F3 ∧ Tq.Vs t3 0) := ⟨hM, hV⟩
  clear hof hM hmv M2 he hx3 hn3 hV
  obtain ⟨a3, n3, c3, rfl, hj1, hj2⟩ := hsq
  clear hj1 hj2
  unfold rv
  go_wp2
  go_loopw [5, 6] (fun s i wr => ∃ (k v : Nat) (t : Tq.Tr) (F : Nat → Prop), k ≤ N ∧ v ≤ k ∧ s = .int .i64 (v : Int) ∧ i = .int .i64 (k : Int) ∧ Mine11 LT W wr q t F ∧ Tq.Vs t v) (fun _ i _ => N - (intOf i).toNat)
  case atStart => exact ⟨0, 0, t3, F3, Nat.zero_le _, Nat.le_refl _, rfl, rfl, M3.out.1, M3.out.2⟩
  case round =>
    obtain ⟨k, v, t, F, hk, hv, rfl, rfl, hM, hV⟩ := hrel
    have HR : Hid (Mine11 LT W wr q t F ∧ Tq.Vs t v) := ⟨hM, hV⟩
    clear hM hV M3
    by_cases hlt : k < N
    · have hlt' : (k : Int) < (N : Int) := by omega
      have hk0 : (0 : Int) ≤ (k : Int) := by omega
      have hwk : IntKind.wrap .i64 ((k : Int) + 1) = (k : Int) + 1 := by rw [IntKind.wrap_i64]; omega
      have hwv : IntKind.wrap .i64 ((v : Int) + 1) = (v : Int) + 1 := by rw [IntKind.wrap_i64]; omega
      have hw5 : IntKind.wrap .i64 ((v : Int) + 5) = (v : Int) + 5 := by rw [IntKind.wrap_i64]; omega
      obtain ⟨b, hb⟩ : ∃ b, l[k]? = some b := ⟨_, List.getElem?_eq_getElem (by have := HC.out.2; omega)⟩
      obtain ⟨g, o, hav, lx⟩ := HC.out.1 k b hb
      subst hav
      have lx' : wr.cell? ⟨g, o + k, none⟩ = some (.bool b) := Below.kept HR.out.1.below lx
      clear hb lx
      cases b with
      | true =>
        go_wp2_with fail
        clear lx'
        obtain ⟨x4, t4, he4, hx4, hn4, hV4⟩ := HR.out.2.set (by omega)
        have hx4b : (x4.err != 0) = false := by rw [hx4]; rfl
        refine (HR.out.1.doo HS.out.1 HS.out.2 (Tq.st Tq.pA ⟨#[]⟩ (v : Int)) 1 2 (fit_st pA_size (by unfold maxLen; decide) (by omega)) x4 t4 he4 hV4.fine).mono ?_
        rintro e w4 ⟨F4, v4, rfl, hsq, hof, hM, hmv⟩
        have M4 : Hid (Mine11 LT W w4 q t4 F4 ∧ Tq.Vs t4 (v + 1)) := ⟨hM, hV4⟩
        clear hof hM hmv he4 hn4 hV4 hx4
        obtain ⟨a4, n4, c4, rfl, hj1, hj2⟩ := hsq
        clear hj1 hj2
        unfold rv
        go_wp2_with fail
        refine (M4.out.1.doo HS.out.1 HS.out.2 (Tq.st Tq.pA ⟨#[]⟩ ((v : Int) + 5)) 1 2 (fit_st pA_size (by unfold maxLen; decide) (by omega)) (Tq.fail 6) t4 (M4.out.2.set_no (by omega) (by omega)) M4.out.2.fine).mono ?_
        rintro e w5 ⟨F5, v5, rfl, hsq, hof, hM, hmv⟩
        have M5 : Hid (Mine11 LT W w5 q t4 F5 ∧ Tq.Vs t4 (v + 1)) := ⟨hM, M4.out.2⟩
        clear hof hM hmv M4
        obtain ⟨a5, n5, c5, rfl, hj1, hj2⟩ := hsq
        clear hj1 hj2
        unfold rv Tq.fail
        simp only []
        have hf6 : ∀ (a : Option Addr) (k c : Nat) (w : World), (Instr.field 32 (.agg #[.int .i64 6, .string ⟨#[]⟩, .string ⟨#[]⟩, .slice a k c, .int .i64 0, .int .i64 0, .int .i64 0, .int .i64 0, .int .i64 0, .int .i64 0, .int .i64 0]) 0).run Tryd.prog w = .ok (.int .i64 6) w := fun _ _ _ _ => by kernel_rfl
        go_wp2_with fail
        obtain ⟨x7, he7, hx7, hn7, hr7⟩ := M5.out.2.exists_
        refine (M5.out.1.doo HS.out.1 HS.out.2 (Tq.ex Tq.pA) 1 4 (fit_ex pA_size) x7 _ he7 M5.out.2.fine).mono ?_
        rintro e w7 ⟨F7, v7, rfl, hsq, hof, hM, hmv⟩
        have M7 : Hid (Mine11 LT W w7 q t4 F7 ∧ Tq.Vs t4 (v + 1)) := ⟨hM, M5.out.2⟩
        have HX7 : Hid (x7.err = 0 ∧ x7.ver = ((v + 1 : Nat) : Int)) := ⟨hx7, hr7⟩
        clear hof hM hmv he7 hn7 hx7 hr7 M5
        obtain ⟨a7, n7, c7, rfl, hj1, hj2⟩ := hsq
        clear hj1 hj2
        obtain ⟨q7, hq7⟩ : ∃ z, z = w7.heap.size := ⟨_, rfl⟩
        have hba := (Below.refl _ w7).alloc (Nat.le_refl _) (.cells #[.int .i64 x7.err, .string x7.path, .string x7.data, .slice a7 n7 c7, .int .i64 x7.made, .int .i64 x7.changed, .int .i64 x7.ver, .int .i64 x7.kids, .int .i64 x7.owner, .int .i64 x7.len, .int .i64 x7.cnt] 32)
        have M8 : Hid (Mine11 LT W (w7.alloc (.cells #[.int .i64 x7.err, .string x7.path, .string x7.data, .slice a7 n7 c7, .int .i64 x7.made, .int .i64 x7.changed, .int .i64 x7.ver, .int .i64 x7.kids, .int .i64 x7.owner, .int .i64 x7.len, .int .i64 x7.cnt] 32)) q t4 F7 ∧ Tq.Vs t4 (v + 1)) := ⟨M7.out.1.later HS.out.1 hba, M7.out.2⟩
        have r0 : (w7.alloc (.cells #[.int .i64 x7.err, .string x7.path, .string x7.data, .slice a7 n7 c7, .int .i64 x7.made, .int .i64 x7.changed, .int .i64 x7.ver, .int .i64 x7.kids, .int .i64 x7.owner, .int .i64 x7.len, .int .i64 x7.cnt] 32)).cell? ⟨q7, 0, none⟩ = some (.int .i64 0) := by
          rw [hq7, ← HX7.out.1]
          exact cell?_alloc_at _ _ _ _ _ _ rfl
        have r6 : (w7.alloc (.cells #[.int .i64 x7.err, .string x7.path, .string x7.data, .slice a7 n7 c7, .int .i64 x7.made, .int .i64 x7.changed, .int .i64 x7.ver, .int .i64 x7.kids, .int .i64 x7.owner, .int .i64 x7.len, .int .i64 x7.cnt] 32)).cell? ⟨q7, 6, none⟩ = some (.int .i64 ((v : Int) + 1)) := by
          have e : some (Value.int .i64 x7.ver) = some (.int .i64 ((v : Int) + 1)) := by rw [HX7.out.2]; simp
          rw [hq7, ← e]
          exact cell?_alloc_at _ _ _ _ _ _ rfl
        clear hba M7
        unfold rv
        go_upto_region 19 with fail
        rw [← hq7]
        clear hq7
        generalize w7.alloc (.cells #[.int .i64 x7.err, .string x7.path, .string x7.data, .slice a7 n7 c7, .int .i64 x7.made, .int .i64 x7.changed, .int .i64 x7.ver, .int .i64 x7.kids, .int .i64 x7.owner, .int .i64 x7.len, .int .i64 x7.cnt] 32) = w8 at *
        go_wp2
        go_roundw
        case rel => exact ⟨k + 1, v + 1, t4, F7, by omega, by omega, by first | rfl | go_num, by go_num, M8.out.1, M8.out.2⟩
        case measure => simp [intOf]; omega
      | false =>
        go_wp2_with fail
        clear lx'
        refine (HR.out.1.doo HS.out.1 HS.out.2 (Tq.dl Tq.pA (v : Int)) 1 2 (fit_dl pA_size (by omega)) (Tq.gone Tq.pA) ⟨10, []⟩ HR.out.2.del (fine11_new (by decide))).mono ?_
        rintro e w4 ⟨F4, v4, rfl, hsq, hof, hM, hmv⟩
        have M4 : Hid (Mine11 LT W w4 q ⟨10, []⟩ F4) := hM
        clear hof hM hmv
        obtain ⟨a4, n4, c4, rfl, hj1, hj2⟩ := hsq
        clear hj1 hj2
        unfold rv Tq.gone
        simp only []
        have hf6 : ∀ (a : Option Addr) (k c : Nat) (w : World), (Instr.field 32 (.agg #[.int .i64 0, .string Tq.pA, .string ⟨#[]⟩, .slice a k c, .int .i64 0, .int .i64 0, .int .i64 0, .int .i64 0, .int .i64 0, .int .i64 0, .int .i64 0]) 0).run Tryd.prog w = .ok (.int .i64 0) w := fun _ _ _ _ => by kernel_rfl
        go_wp2_with fail
        refine (made_any11 Tq.pA 0 w4).mono ?_
        rintro e w5 ⟨rfl, hb⟩
        have M5 : Hid (Mine11 LT W w5 q ⟨10, []⟩ F4) := M4.out.later HS.out.1 hb
        clear hb M4
        unfold ov Tq.mk
        simp only []
        go_wp2_with fail
        obtain ⟨x6, t6, he6, hx6, hn6, hV6⟩ := Tq.vs_made (z := 3) (by decide)
        have hx6b : (x6.err != 0) = false := by rw [hx6]; rfl
        refine (M5.out.doo HS.out.1 HS.out.2 (Tq.mk Tq.pA 0) 1 3 (fit_mk pA_size (by decide)) x6 t6 he6 hV6.fine).mono ?_
        rintro e w6 ⟨F6, v6, rfl, hsq, hof, hM, hmv⟩
        have M6 : Hid (Mine11 LT W w6 q t6 F6 ∧ Tq.Vs t6 0) := ⟨hM, hV6⟩
        clear hof hM hmv M5 he6 hn6 hV6 hx6
        obtain ⟨a6, n6, c6, rfl, hj1, hj2⟩ := hsq
        clear hj1 hj2
        unfold rv
        go_wp2_with fail
        obtain ⟨x7, he7, hx7, hn7, hr7⟩ := M6.out.2.exists_
        refine (M6.out.1.doo HS.out.1 HS.out.2 (Tq.ex Tq.pA) 1 4 (fit_ex pA_size) x7 _ he7 M6.out.2.fine).mono ?_
        rintro e w7 ⟨F7, v7, rfl, hsq, hof, hM, hmv⟩
        have M7 : Hid (Mine11 LT W w7 q t6 F7 ∧ Tq.Vs t6 (0)) := ⟨hM, M6.out.2⟩
        have HX7 : Hid (x7.err = 0 ∧ x7.ver = ((0 : Nat) : Int)) := ⟨hx7, hr7⟩
        clear hof hM hmv he7 hn7 hx7 hr7 M6
        obtain ⟨a7, n7, c7, rfl, hj1, hj2⟩ := hsq
        clear hj1 hj2
        obtain ⟨q7, hq7⟩ : ∃ z, z = w7.heap.size := ⟨_, rfl⟩
        have hba := (Below.refl _ w7).alloc (Nat.le_refl _) (.cells #[.int .i64 x7.err, .string x7.path, .string x7.data, .slice a7 n7 c7, .int .i64 x7.made, .int .i64 x7.changed, .int .i64 x7.ver, .int .i64 x7.kids, .int .i64 x7.owner, .int .i64 x7.len, .int .i64 x7.cnt] 32)
        have M8 : Hid (Mine11 LT W (w7.alloc (.cells #[.int .i64 x7.err, .string x7.path, .string x7.data, .slice a7 n7 c7, .int .i64 x7.made, .int .i64 x7.changed, .int .i64 x7.ver, .int .i64 x7.kids, .int .i64 x7.owner, .int .i64 x7.len, .int .i64 x7.cnt] 32)) q t6 F7 ∧ Tq.Vs t6 (0)) := ⟨M7.out.1.later HS.out.1 hba, M7.out.2⟩
        have r0 : (w7.alloc (.cells #[.int .i64 x7.err, .string x7.path, .string x7.data, .slice a7 n7 c7, .int .i64 x7.made, .int .i64 x7.changed, .int .i64 x7.ver, .int .i64 x7.kids, .int .i64 x7.owner, .int .i64 x7.len, .int .i64 x7.cnt] 32)).cell? ⟨q7, 0, none⟩ = some (.int .i64 0) := by
          rw [hq7, ← HX7.out.1]
          exact cell?_alloc_at _ _ _ _ _ _ rfl
        have r6 : (w7.alloc (.cells #[.int .i64 x7.err, .string x7.path, .string x7.data, .slice a7 n7 c7, .int .i64 x7.made, .int .i64 x7.changed, .int .i64 x7.ver, .int .i64 x7.kids, .int .i64 x7.owner, .int .i64 x7.len, .int .i64 x7.cnt] 32)).cell? ⟨q7, 6, none⟩ = some (.int .i64 0) := by
          have e : some (Value.int .i64 x7.ver) = some (.int .i64 0) := by rw [HX7.out.2]; rfl
          rw [hq7, ← e]
          exact cell?_alloc_at _ _ _ _ _ _ rfl
        clear hba M7
        unfold rv
        go_upto_region 19 with fail
        rw [← hq7]
        clear hq7
        generalize w7.alloc (.cells #[.int .i64 x7.err, .string x7.path, .string x7.data, .slice a7 n7 c7, .int .i64 x7.made, .int .i64 x7.changed, .int .i64 x7.ver, .int .i64 x7.kids, .int .i64 x7.owner, .int .i64 x7.len, .int .i64 x7.cnt] 32) = w8 at *
        go_wp2
        go_roundw
        case rel => exact ⟨k + 1, 0, t6, F7, by omega, by omega, by first | rfl | go_num, by go_num, M8.out.1, M8.out.2⟩
        case measure => simp [intOf]; omega
    · have hlt' : ¬ (k : Int) < (N : Int) := by omega
      go_wp2
      go_ret
      exact ⟨rfl, HR.out.1.below⟩
end Go.Proofs.YtfcbdjjbchcpjaaDoor
