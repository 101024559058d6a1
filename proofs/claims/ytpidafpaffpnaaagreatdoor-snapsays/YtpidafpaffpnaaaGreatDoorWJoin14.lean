/- The landed snap's parental and joined. -/
import Derived.Test.YtpidafpaffpnaaaGreatDoorSpecs14
import Derived.Test.YtpidafpaffpnaaaGreatDoorWnd
import Derived.Test.YtpidafpaffpnaaaGreatDoorShelf
namespace Go.Proofs.YtpidafpaffpnaaaGreatDoor.Pl
theorem count_of : ∀ (l : List (List UInt8)), (∀ x ∈ l, ∀ c ∈ x, c ≠ 47) → (of l).count 47 = l.length
  | [], _ => rfl
  | n :: r, h => by
    have h1 : n.count 47 = 0 := List.count_eq_zero.2 (fun hm => h n (by simp) 47 hm rfl)
    have h2 := count_of r (fun x hx => h x (by simp [hx]))
    show (47 :: (n ++ of r)).count 47 = _
    rw [List.count_cons_self, List.count_append, h1, h2, List.length_cons]
    omega
end Go.Proofs.YtpidafpaffpnaaaGreatDoor.Pl
namespace Go.Proofs.YtpidafpaffpnaaaGreatDoor.Tq
open Kq
theorem count_up {p : ByteArray} (h : Pl.goodB p.data.toList = true) : 1 < Lib.countByte p.data.toList 47 ↔ (up p).isSome = true := by
  obtain ⟨h1, h2, _⟩ := Pl.good_parts h
  have h3 : Lib.countByte p.data.toList 47 = (Pl.parts p.data.toList).length := by
    unfold Lib.countByte
    conv => lhs; rw [h1]
    exact Pl.count_of _ (Pl.namesB_clean h2)
  rw [h3]
  unfold up
  split
  · simp; omega
  · simp; omega
theorem sub_app14 (p s : ByteArray) : p ++ ⟨#[47]⟩ ++ s = sub p s := by
  apply ByteArray.ext
  unfold sub tb
  rw [ByteArray.data_append, ByteArray.data_append]
  apply Array.toList_inj.1
  simp
theorem unders_snoc (l : List En) (e : En) : unders (l ++ [e]) = unders l ++ if (up e.1).isSome then [e.1] else [] := by
  unfold unders keys
  rw [List.map_append, List.filter_append]
  congr 1
  simp only [List.map_cons, List.map_nil, List.filter_cons, List.filter_nil]
theorem nameds_snoc (l : List En) (e : En) : nameds (l ++ [e]) = nameds l ++ e.2.names.map (sub e.1) := by
  unfold nameds
  rw [List.flatMap_append]
  simp
end Go.Proofs.YtpidafpaffpnaaaGreatDoor.Tq
namespace Go.Proofs.YtpidafpaffpnaaaGreatDoor
open Go.RowKit
set_option maxRecDepth 20000 in
set_option maxHeartbeats 8000000 in
theorem parental_any14 {LT : Rep11} (S : Specs11 LT) (Q : SpecQ14 LT) (q : Nat) (t : Tq.Tr) (F : Nat → Prop) (p : ByteArray) (n : Kq.Kn) (ma : Option Addr) (mL mc : Nat) (w : World) (hL : LT w q t F) (hf : Fine11 t) (hv : Ss w (.slice ma mL mc) n.names) (hn : n.names.length ≤ 900) (hs : ∀ s ∈ n.names, s.size ≤ 40) (hp : p.size ≤ 200) :
    Calls Tryz.prog 143 #[dptr q, .string p, kv n (.slice ma mL mc)] w (BoolP (Tq.parB t.l (p, n) = true) w) := by
  have HS : Hid (SpecQ14 LT ∧ Fine11 t ∧ (∀ s ∈ n.names, s.size ≤ 40) ∧ p.size ≤ 200) := ⟨Q, hf, hs, hp⟩
  have HK : Hid (∀ w', Below w.heap.size w w' → LT w' q t F ∧ Ss w' (.slice ma mL mc) n.names) := fun w' hb => ⟨S.keep hL (fun k hk => hb.block k (S.lt hL hk)), hv.below hb⟩
  have HM : Hid (mL = n.names.length) := by
    obtain ⟨_, _, _, e, h1, _⟩ := hv
    simp only [Value.slice.injEq] at e
    have h2 : mL = n.names.length := by rw [e.2.1, h1]
    exact h2
  have hmL : mL ≤ 900 := by have := HM.out; omega
  clear S Q hL hf hs hp hv hn
  obtain ⟨qb, hqb⟩ : ∃ z, z = w.heap.size := ⟨_, rfl⟩
  have H1 : Hid (Below w.heap.size w (w.alloc (.cells #[.int .i64 n.made, .int .i64 n.changed, .int .i64 n.ver, .int .i64 n.kids, .int .i64 n.owner, .int .i64 n.len, .int .i64 n.cnt, .string n.data, .int .i64 n.next, .slice ma mL mc] 38)) ∧ Cb (w.alloc (.cells #[.int .i64 n.made, .int .i64 n.changed, .int .i64 n.ver, .int .i64 n.kids, .int .i64 n.owner, .int .i64 n.len, .int .i64 n.cnt, .string n.data, .int .i64 n.next, .slice ma mL mc] 38)) qb (k10 n (.slice ma mL mc)) 38) := ⟨(Below.refl _ w).alloc (Nat.le_refl _) _, by rw [hqb]; exact Cb.made w (k10 n (.slice ma mL mc)) _⟩
  unfold dptr kv
  go_enter Tryz.func143, Tryz.ntmps143
  go_upto_region 1 with fail
  rw [← hqb]
  clear hqb
  generalize w.alloc (.cells #[.int .i64 n.made, .int .i64 n.changed, .int .i64 n.ver, .int .i64 n.kids, .int .i64 n.owner, .int .i64 n.len, .int .i64 n.cnt, .string n.data, .int .i64 n.next, .slice ma mL mc] 38) = w1 at *
  go_wp2_with fail
  refine (eph_any10 qb n (.slice ma mL mc) w1 H1.out.2).mono ?_
  rintro e w2 ⟨rfl, hb⟩
  have H2 : Hid (Below w.heap.size w w2 ∧ Cb w2 qb (k10 n (.slice ma mL mc)) 38) := ⟨H1.out.1.trans (hb.mono H1.out.1.size), H1.out.2.below hb⟩
  clear hb H1
  obtain ⟨R, hR⟩ : ∃ R : Bool, R = decide (n.owner ≠ 0) := ⟨_, rfl⟩
  rw [← hR]
  have HR : Hid (R = decide (n.owner ≠ 0)) := hR
  clear hR
  have d9 : w2.cell? ⟨qb, 9, none⟩ = some (.slice ma mL mc) := H2.out.2.cell 9
  by_cases hbad : R = true ∧ 0 < mL
  · obtain ⟨rfl, h0⟩ := hbad
    have h0' : (0 : Int) < (mL : Int) := by omega
    have HN : Hid (¬ Tq.parB t.l (p, n) = true) := by
      have h : ¬ Tq.parB t.l (p, n) = true := by
        unfold Tq.parB
        simp only []
        rw [← HR.out, decide_eq_true (by rw [← HM.out]; exact h0)]
        simp
      exact h
    go_wp2
    go_ret
    exact ⟨false, rfl, ⟨fun h => (by cases h), fun h => absurd h HN.out⟩, H2.out.1⟩
  have HOK : Hid ((!(decide (n.owner ≠ 0) && decide (0 < n.names.length))) = true) := by
    have h : (!(decide (n.owner ≠ 0) && decide (0 < n.names.length))) = true := by
      rw [← HR.out, ← HM.out]
      cases R with
      | false => rfl
      | true =>
        have : ¬ 0 < mL := fun h => hbad ⟨rfl, h⟩
        simp [this]
    exact h
  have HX : Hid (R = false ∨ mL = 0) := by
    have h : R = false ∨ mL = 0 := by
      cases R with
      | false => exact Or.inl rfl
      | true => exact Or.inr (by have : ¬ 0 < mL := fun h => hbad ⟨rfl, h⟩; omega)
    exact h
  clear hbad HR
  cases R with
  | false =>
    clear HX
    go_wp2
    clear d9
    go_loopw [21] (fun i wr => ∃ k : Nat, k ≤ mL ∧ i = .int .i64 (k : Int) ∧ ((n.names.take k).all fun s => (Tq.find t.l (Tq.sub p s)).isSome) = true ∧ Below w.heap.size w wr) (fun i _ => mL - (intOf i).toNat)
    case atStart => exact ⟨0, Nat.zero_le _, rfl, rfl, H2.out.1⟩
    case round =>
      obtain ⟨k, hk, rfl, hall, hb⟩ := hrel
      have H3 : Hid (((n.names.take k).all fun s => (Tq.find t.l (Tq.sub p s)).isSome) = true ∧ Below w.heap.size w wr) := ⟨hall, hb⟩
      clear hall hb
      by_cases hlt : k < mL
      · have hlt' : (k : Int) < (mL : Int) := by omega
        have hk0 : (0 : Int) ≤ (k : Int) := by omega
        have hwk : IntKind.wrap .i64 ((k : Int) + 1) = (k : Int) + 1 := by rw [IntKind.wrap_i64]; omega
        obtain ⟨s, hs⟩ : ∃ s, n.names[k]? = some s := ⟨_, List.getElem?_eq_getElem (by have := HM.out; omega)⟩
        have HSS : Hid (n.names[k]? = some s ∧ s.size ≤ 40) := ⟨hs, HS.out.2.2.1 s (List.mem_of_getElem? hs)⟩
        obtain ⟨av, n0, c0, e0, hj0, hcs⟩ := (HK.out wr H3.out.2).2
        obtain ⟨pg, po, hpa, lx⟩ := hcs k s hs
        simp only [Value.slice.injEq] at e0
        obtain ⟨e1, e2, e3⟩ := e0
        subst hpa e1
        clear hcs e2 e3 hj0 hs
        have hz3 : ¬ 9223372036854775807 < p.size + 1 := by have := HS.out.2.2.2; omega
        have hz4 : ¬ 9223372036854775807 < p.size + 1 + s.size := by have := HS.out.2.2.2; have := HSS.out.2; omega
        have hz5 : (p ++ ⟨#[47]⟩).size = p.size + 1 := by rw [ByteArray.size_append]; rfl
        go_wp2_with fail
        clear lx hz3 hz4 hz5
        rw [Tq.sub_app14]
        have hsz : (Tq.sub p s).size ≤ maxLen := by
          have h1 : (Tq.sub p s).size = (Tq.sub p s).data.toList.length := by rw [Array.length_toList]; rfl
          have h2 := HS.out.2.2.2
          have h3 := HSS.out.2
          rw [h1]
          unfold Tq.sub
          rw [Tq.tb_data, List.length_append, List.length_cons, Kq.size_data, Kq.size_data]
          unfold maxLen
          omega
        refine (HS.out.1.node q t F (Tq.sub p s) wr (HK.out wr H3.out.2).1 HS.out.2.1 hsz).mono ?_
        rintro e w5 ⟨hN, hb⟩
        have hb5 : Below w.heap.size w w5 := H3.out.2.trans (hb.mono H3.out.2.size)
        cases hfd : Tq.find t.l (Tq.sub p s) with
        | none =>
          obtain ⟨na, nc, rfl⟩ := hN.2 hfd
          have HN : Hid (¬ Tq.parB t.l (p, n) = true) := by
            have h : ¬ Tq.parB t.l (p, n) = true := fun h => by
              unfold Tq.parB at h
              rw [Bool.and_eq_true, List.all_eq_true] at h
              have h2 := h.2 s (List.mem_of_getElem? HSS.out.1)
              simp only [] at h2
              rw [hfd] at h2
              cases h2
            exact h
          have HB5 : Hid (Below w.heap.size w w5) := hb5
          clear hN hb hb5 hfd hsz
          unfold kv Kq.zero
          go_wp2
          go_ret
          refine ⟨false, rfl, ⟨fun h => (by cases h), fun h => absurd h HN.out⟩, ?_⟩
          exact HB5.out.alloc HB5.out.size _
        | some n2 =>
          obtain ⟨u, rfl, hsq, hof⟩ := hN.1 n2 hfd
          obtain ⟨mb, mM, md, rfl, hj1, hj2⟩ := hsq
          have HT : Hid (((n.names.take (k + 1)).all fun s => (Tq.find t.l (Tq.sub p s)).isSome) = true ∧ Below w.heap.size w (w5.alloc (.cells #[.int .i64 n2.made, .int .i64 n2.changed, .int .i64 n2.ver, .int .i64 n2.kids, .int .i64 n2.owner, .int .i64 n2.len, .int .i64 n2.cnt, .string n2.data, .int .i64 n2.next, .slice mb mM md] 38))) := by
            refine ⟨?_, hb5.alloc hb5.size _⟩
            rw [List.take_add_one, HSS.out.1, List.all_append, H3.out.1]
            simp [hfd]
          clear hN hb hb5 hfd hof hj1 hj2 hsz
          unfold kv
          go_wp2
          go_roundw
          case rel => exact ⟨k + 1, by omega, by go_num, HT.out.1, HT.out.2⟩
          case measure => simp [intOf]; omega
      · have hlt' : ¬ (k : Int) < (mL : Int) := by omega
        have HE : Hid (Tq.parB t.l (p, n) = true) := by
          have h := H3.out.1
          rw [List.take_of_length_le (by have := HM.out; omega)] at h
          have h2 : Tq.parB t.l (p, n) = true := by
            unfold Tq.parB
            rw [Bool.and_eq_true]
            exact ⟨HOK.out, h⟩
          exact h2
        go_wp2
        go_ret
        exact ⟨true, rfl, ⟨fun _ => HE.out, fun _ => rfl⟩, H3.out.2⟩
  | true =>
    obtain hm0 : mL = 0 := by
      rcases HX.out with h | h
      · cases h
      · exact h
    subst hm0
    clear HX
    have HE : Hid (Tq.parB t.l (p, n) = true) := by
      have e : n.names = [] := List.length_eq_zero_iff.1 HM.out.symm
      have h2 : Tq.parB t.l (p, n) = true := by
        unfold Tq.parB
        rw [Bool.and_eq_true]
        refine ⟨HOK.out, ?_⟩
        simp only [e]
        rfl
      exact h2
    go_wp2
    clear d9
    go_loopw [21] (fun i wr => i = .int .i64 0 ∧ Below w.heap.size w wr) (fun i _ => 0)
    case atStart => exact ⟨rfl, H2.out.1⟩
    case round =>
      obtain ⟨rfl, hb⟩ := hrel
      have H3 : Hid (Below w.heap.size w wr) := hb
      clear hb
      go_wp2
      go_ret
      exact ⟨true, rfl, ⟨fun _ => HE.out, fun _ => rfl⟩, H3.out⟩

set_option maxRecDepth 20000 in
set_option maxHeartbeats 8000000 in
theorem joined_any14 {LT : Rep11} (S : Specs11 LT) (Q : SpecQ14 LT) (q : Nat) (t : Tq.Tr) (F : Nat → Prop) (w : World) (hL : LT w q t F) (hf : Fine11 t) :
    Calls Tryz.prog 92 #[dptr q] w (BoolP (Tq.joinB t.l = true) w) := by
  have HS : Hid (Specs11 LT ∧ SpecQ14 LT ∧ Fine11 t) := ⟨S, Q, hf⟩
  have HK : Hid (∀ w', Below w.heap.size w w' → LT w' q t F) := fun w' hb => S.keep hL (fun k hk => hb.block k (S.lt hL hk))
  clear S Q hL hf
  unfold dptr
  go_enter Tryz.func92, Tryz.ntmps92
  go_wp2_with fail
  refine (HS.out.2.1.paths q t F w (HK.out w (Below.refl _ _)) HS.out.2.2).mono ?_
  rintro e w3 ⟨v1, rfl, hsq, hof, hb⟩
  have hss := hsq.ss
  obtain ⟨pa, pL, pc, rfl, hpL, hjj⟩ := hsq
  have HPL : Hid (pL = t.l.length ∧ t.l.length ≤ 500) := by
    have e : pL = t.l.length := by rw [hpL]; unfold Tq.keys; simp
    have h2 := HS.out.2.2.len
    have h3 := HS.out.2.2.room
    exact ⟨e, by omega⟩
  have hpL5 : pL ≤ 500 := by have := HPL.out; omega
  have H3 : Hid (Ss w3 (.slice pa pL pc) (Tq.keys t.l) ∧ Below w.heap.size w w3) := ⟨hss, hb⟩
  clear hss hpL hjj hof hb
  go_wp2
  go_loopw [3, 4, 12] (fun x y i wr => ∃ k U M : Nat, k ≤ pL ∧ i = .int .i64 (k : Int) ∧ x = .int .i64 (U : Int) ∧ y = .int .i64 (M : Int) ∧ (∀ e ∈ t.l.take k, Tq.parB t.l e = true) ∧ (Tq.unders (t.l.take k)).length = U ∧ (Tq.nameds (t.l.take k)).length = M ∧ U ≤ k ∧ M ≤ k * 900 ∧ Below w3.heap.size w3 wr) (fun _ _ i _ => pL - (intOf i).toNat)
  case atStart => exact ⟨0, 0, 0, Nat.zero_le _, rfl, rfl, rfl, fun e he => (by simp at he), rfl, rfl, Nat.le_refl _, by omega, Below.refl _ _⟩
  case round =>
    obtain ⟨k, U, M, hk, rfl, rfl, rfl, hpar, hun, hnm, hU, hM, hb⟩ := hrel
    have H4 : Hid ((∀ e ∈ t.l.take k, Tq.parB t.l e = true) ∧ (Tq.unders (t.l.take k)).length = U ∧ (Tq.nameds (t.l.take k)).length = M ∧ True ∧ Below w3.heap.size w3 wr ∧ Below w.heap.size w wr) := ⟨hpar, hun, hnm, trivial, hb, H3.out.2.trans (hb.mono H3.out.2.size)⟩
    clear hpar hun hnm hb
    by_cases hlt : k < pL
    · have hlt' : (k : Int) < (pL : Int) := by omega
      have hk0 : (0 : Int) ≤ (k : Int) := by omega
      have hwk : IntKind.wrap .i64 ((k : Int) + 1) = (k : Int) + 1 := by rw [IntKind.wrap_i64]; omega
      have hwU : IntKind.wrap .i64 ((U : Int) + 1) = (U : Int) + 1 := by rw [IntKind.wrap_i64]; omega
      obtain ⟨p, n, hp0, hp1, hp2, hp3, hp4, hp5⟩ := Tq.at14 HS.out.2.2 (k := k) (by have := HPL.out.1; omega)
      have HP : Hid (t.l[k]? = some (p, n) ∧ Tq.find t.l p = some n ∧ p.size ≤ maxLen ∧ p.size ≤ 200 ∧ n.names.length ≤ 900 ∧ (∀ s ∈ n.names, s.size ≤ 40) ∧ (p, n) ∈ t.l ∧ Pl.goodB p.data.toList = true) := ⟨hp0, hp2, hp3, hp5, (HS.out.2.2.nodes _ hp4).2.many, fun s hs => Tq.name_in ((HS.out.2.2.nodes _ hp4).2.long s hs), hp4, (HS.out.2.2.nodes _ hp4).1⟩
      obtain ⟨av, n0, c0, e0, hj0, hcs⟩ := H3.out.1.below H4.out.2.2.2.2.1
      obtain ⟨pg, po, hpa, lx⟩ := hcs k p hp1
      simp only [Value.slice.injEq] at e0
      obtain ⟨e1, e2, e3⟩ := e0
      subst hpa e1
      clear hcs e2 e3 hj0 hp0 hp1 hp2 hp3 hp4 hp5
      go_wp2_with fail
      clear lx
      refine (Tryz.strings_Count_one p 47 wr).mono ?_
      rintro e w5 ⟨rfl, hw⟩
      rw [hw]
      clear hw w5
      obtain ⟨C, hC⟩ : ∃ C, C = Lib.countByte p.data.toList 47 := ⟨_, rfl⟩
      rw [← hC]
      have HCU : Hid (1 < C ↔ (Tq.up p).isSome = true) := by
        have h := Tq.count_up HP.out.2.2.2.2.2.2.2
        rw [← hC] at h
        exact h
      clear hC
      by_cases hc1 : 1 < C
      · have hc1' : (1 : Int) < (C : Int) := by omega
        have HUP : Hid ((Tq.up p).isSome = true) := HCU.out.1 hc1
        clear HCU
        go_wp2_with fail
        refine (HS.out.2.1.node q t F p wr (HK.out wr H4.out.2.2.2.2.2) HS.out.2.2 HP.out.2.2.1).mono ?_
        rintro e w7 ⟨hN, hb⟩
        obtain ⟨u, rfl, hsq, hof⟩ := hN.1 n HP.out.2.1
        have hss := hsq.ss
        obtain ⟨ma, mL, mc, rfl, hj1, hj2⟩ := hsq
        have HML : Hid (mL = n.names.length) := hj1
        have hmL9 : mL ≤ 900 := by have h1 := HML.out; have h2 := HP.out.2.2.2.2.1; omega
        obtain ⟨qn, hqn⟩ : ∃ z, z = w7.heap.size := ⟨_, rfl⟩
        have H8 : Hid (Below w3.heap.size w3 (w7.alloc (.cells #[.int .i64 n.made, .int .i64 n.changed, .int .i64 n.ver, .int .i64 n.kids, .int .i64 n.owner, .int .i64 n.len, .int .i64 n.cnt, .string n.data, .int .i64 n.next, .slice ma mL mc] 38)) ∧ Below w.heap.size w (w7.alloc (.cells #[.int .i64 n.made, .int .i64 n.changed, .int .i64 n.ver, .int .i64 n.kids, .int .i64 n.owner, .int .i64 n.len, .int .i64 n.cnt, .string n.data, .int .i64 n.next, .slice ma mL mc] 38)) ∧ Cb (w7.alloc (.cells #[.int .i64 n.made, .int .i64 n.changed, .int .i64 n.ver, .int .i64 n.kids, .int .i64 n.owner, .int .i64 n.len, .int .i64 n.cnt, .string n.data, .int .i64 n.next, .slice ma mL mc] 38)) qn (k10 n (.slice ma mL mc)) 38 ∧ Ss (w7.alloc (.cells #[.int .i64 n.made, .int .i64 n.changed, .int .i64 n.ver, .int .i64 n.kids, .int .i64 n.owner, .int .i64 n.len, .int .i64 n.cnt, .string n.data, .int .i64 n.next, .slice ma mL mc] 38)) (.slice ma mL mc) n.names) := by
          have hba := (Below.refl _ w7).alloc (Nat.le_refl _) (.cells #[.int .i64 n.made, .int .i64 n.changed, .int .i64 n.ver, .int .i64 n.kids, .int .i64 n.owner, .int .i64 n.len, .int .i64 n.cnt, .string n.data, .int .i64 n.next, .slice ma mL mc] 38)
          have hb2 := hb.trans (hba.mono hb.size)
          exact ⟨H4.out.2.2.2.2.1.trans (hb2.mono H4.out.2.2.2.2.1.size), H4.out.2.2.2.2.2.trans (hb2.mono H4.out.2.2.2.2.2.size), by rw [hqn]; exact Cb.made w7 (k10 n (.slice ma mL mc)) _, hss.below hba⟩
        clear hN hb hof hss hj1 hj2
        unfold kv
        go_upto_region 8 with fail
        rw [← hqn]
        clear hqn
        generalize w7.alloc (.cells #[.int .i64 n.made, .int .i64 n.changed, .int .i64 n.ver, .int .i64 n.kids, .int .i64 n.owner, .int .i64 n.len, .int .i64 n.cnt, .string n.data, .int .i64 n.next, .slice ma mL mc] 38) = w8 at *
        obtain ⟨d0, d1, d2, d3, d4, d5, d6, d7, d8, d9⟩ := k14_all H8.out.2.2.1
        go_wp2_with fail
        clear d0 d1 d2 d3 d4 d5 d6 d7 d8 d9
        refine (parental_any14 HS.out.1 HS.out.2.1 q t F p n ma mL mc w8 (HK.out w8 H8.out.2.1) HS.out.2.2 H8.out.2.2.2 HP.out.2.2.2.2.1 HP.out.2.2.2.2.2.1 HP.out.2.2.2.1).mono ?_
        rintro e w9 ⟨R, rfl, hR, hb⟩
        have H9 : Hid ((R = true ↔ Tq.parB t.l (p, n) = true) ∧ Below w3.heap.size w3 w9 ∧ Below w.heap.size w w9 ∧ Cb w9 qn (k10 n (.slice ma mL mc)) 38) := ⟨hR, H8.out.1.trans (hb.mono H8.out.1.size), H8.out.2.1.trans (hb.mono H8.out.2.1.size), H8.out.2.2.1.below hb⟩
        clear hR hb H8
        cases R with
        | false =>
          have HN : Hid (¬ Tq.joinB t.l = true) := by
            have h : ¬ Tq.joinB t.l = true := fun h => by
              unfold Tq.joinB at h
              rw [Bool.and_eq_true, List.all_eq_true] at h
              have h2 := H9.out.1.2 (h.1 (p, n) HP.out.2.2.2.2.2.2.1)
              cases h2
            exact h
          go_wp2
          go_ret
          exact ⟨false, rfl, ⟨fun h => (by cases h), fun h => absurd h HN.out⟩, H9.out.2.2.1⟩
        | true =>
          have HT : Hid ((∀ e ∈ t.l.take (k + 1), Tq.parB t.l e = true) ∧ (Tq.unders (t.l.take (k + 1))).length = (U+1) ∧ (Tq.nameds (t.l.take (k + 1))).length = M + mL) := by
            have e1 : t.l.take (k + 1) = t.l.take k ++ [(p, n)] := by rw [List.take_add_one, HP.out.1]; rfl
            rw [e1, Tq.unders_snoc, Tq.nameds_snoc, List.length_append, List.length_append, List.length_map, ← HML.out, H4.out.2.1, H4.out.2.2.1]
            refine ⟨fun e he => ?_, ?_, rfl⟩
            · rcases List.mem_append.1 he with he | he
              · exact H4.out.1 e he
              · simp at he
                rw [he]
                exact H9.out.1.1 rfl
            · simp only [HUP.out]
              rfl
          have hwM : IntKind.wrap .i64 ((M : Int) + (mL : Int)) = ((M + mL : Nat) : Int) := by rw [IntKind.wrap_i64]; omega
          have c9 : w9.cell? ⟨qn, 9, none⟩ = some (.slice ma mL mc) := H9.out.2.2.2.cell 9
          go_wp2
          clear c9
          go_roundw
          case rel => exact ⟨k + 1, (U+1), M + mL, by omega, by go_num, by go_num, by first | rfl | go_num, HT.out.1, HT.out.2.1, HT.out.2.2, by omega, by omega, H9.out.2.1⟩
          case measure => simp [intOf]; omega
      · have hc1' : ¬ (1 : Int) < (C : Int) := by omega
        have HUP : Hid ((Tq.up p).isSome = false) := by
          cases h : (Tq.up p).isSome with
          | true => exact absurd (HCU.out.2 h) hc1
          | false => exact (show false = false from rfl)
        clear HCU
        go_wp2_with fail
        refine (HS.out.2.1.node q t F p wr (HK.out wr H4.out.2.2.2.2.2) HS.out.2.2 HP.out.2.2.1).mono ?_
        rintro e w7 ⟨hN, hb⟩
        obtain ⟨u, rfl, hsq, hof⟩ := hN.1 n HP.out.2.1
        have hss := hsq.ss
        obtain ⟨ma, mL, mc, rfl, hj1, hj2⟩ := hsq
        have HML : Hid (mL = n.names.length) := hj1
        have hmL9 : mL ≤ 900 := by have h1 := HML.out; have h2 := HP.out.2.2.2.2.1; omega
        obtain ⟨qn, hqn⟩ : ∃ z, z = w7.heap.size := ⟨_, rfl⟩
        have H8 : Hid (Below w3.heap.size w3 (w7.alloc (.cells #[.int .i64 n.made, .int .i64 n.changed, .int .i64 n.ver, .int .i64 n.kids, .int .i64 n.owner, .int .i64 n.len, .int .i64 n.cnt, .string n.data, .int .i64 n.next, .slice ma mL mc] 38)) ∧ Below w.heap.size w (w7.alloc (.cells #[.int .i64 n.made, .int .i64 n.changed, .int .i64 n.ver, .int .i64 n.kids, .int .i64 n.owner, .int .i64 n.len, .int .i64 n.cnt, .string n.data, .int .i64 n.next, .slice ma mL mc] 38)) ∧ Cb (w7.alloc (.cells #[.int .i64 n.made, .int .i64 n.changed, .int .i64 n.ver, .int .i64 n.kids, .int .i64 n.owner, .int .i64 n.len, .int .i64 n.cnt, .string n.data, .int .i64 n.next, .slice ma mL mc] 38)) qn (k10 n (.slice ma mL mc)) 38 ∧ Ss (w7.alloc (.cells #[.int .i64 n.made, .int .i64 n.changed, .int .i64 n.ver, .int .i64 n.kids, .int .i64 n.owner, .int .i64 n.len, .int .i64 n.cnt, .string n.data, .int .i64 n.next, .slice ma mL mc] 38)) (.slice ma mL mc) n.names) := by
          have hba := (Below.refl _ w7).alloc (Nat.le_refl _) (.cells #[.int .i64 n.made, .int .i64 n.changed, .int .i64 n.ver, .int .i64 n.kids, .int .i64 n.owner, .int .i64 n.len, .int .i64 n.cnt, .string n.data, .int .i64 n.next, .slice ma mL mc] 38)
          have hb2 := hb.trans (hba.mono hb.size)
          exact ⟨H4.out.2.2.2.2.1.trans (hb2.mono H4.out.2.2.2.2.1.size), H4.out.2.2.2.2.2.trans (hb2.mono H4.out.2.2.2.2.2.size), by rw [hqn]; exact Cb.made w7 (k10 n (.slice ma mL mc)) _, hss.below hba⟩
        clear hN hb hof hss hj1 hj2
        unfold kv
        go_upto_region 8 with fail
        rw [← hqn]
        clear hqn
        generalize w7.alloc (.cells #[.int .i64 n.made, .int .i64 n.changed, .int .i64 n.ver, .int .i64 n.kids, .int .i64 n.owner, .int .i64 n.len, .int .i64 n.cnt, .string n.data, .int .i64 n.next, .slice ma mL mc] 38) = w8 at *
        obtain ⟨d0, d1, d2, d3, d4, d5, d6, d7, d8, d9⟩ := k14_all H8.out.2.2.1
        go_wp2_with fail
        clear d0 d1 d2 d3 d4 d5 d6 d7 d8 d9
        refine (parental_any14 HS.out.1 HS.out.2.1 q t F p n ma mL mc w8 (HK.out w8 H8.out.2.1) HS.out.2.2 H8.out.2.2.2 HP.out.2.2.2.2.1 HP.out.2.2.2.2.2.1 HP.out.2.2.2.1).mono ?_
        rintro e w9 ⟨R, rfl, hR, hb⟩
        have H9 : Hid ((R = true ↔ Tq.parB t.l (p, n) = true) ∧ Below w3.heap.size w3 w9 ∧ Below w.heap.size w w9 ∧ Cb w9 qn (k10 n (.slice ma mL mc)) 38) := ⟨hR, H8.out.1.trans (hb.mono H8.out.1.size), H8.out.2.1.trans (hb.mono H8.out.2.1.size), H8.out.2.2.1.below hb⟩
        clear hR hb H8
        cases R with
        | false =>
          have HN : Hid (¬ Tq.joinB t.l = true) := by
            have h : ¬ Tq.joinB t.l = true := fun h => by
              unfold Tq.joinB at h
              rw [Bool.and_eq_true, List.all_eq_true] at h
              have h2 := H9.out.1.2 (h.1 (p, n) HP.out.2.2.2.2.2.2.1)
              cases h2
            exact h
          go_wp2
          go_ret
          exact ⟨false, rfl, ⟨fun h => (by cases h), fun h => absurd h HN.out⟩, H9.out.2.2.1⟩
        | true =>
          have HT : Hid ((∀ e ∈ t.l.take (k + 1), Tq.parB t.l e = true) ∧ (Tq.unders (t.l.take (k + 1))).length = U ∧ (Tq.nameds (t.l.take (k + 1))).length = M + mL) := by
            have e1 : t.l.take (k + 1) = t.l.take k ++ [(p, n)] := by rw [List.take_add_one, HP.out.1]; rfl
            rw [e1, Tq.unders_snoc, Tq.nameds_snoc, List.length_append, List.length_append, List.length_map, ← HML.out, H4.out.2.1, H4.out.2.2.1]
            refine ⟨fun e he => ?_, ?_, rfl⟩
            · rcases List.mem_append.1 he with he | he
              · exact H4.out.1 e he
              · simp at he
                rw [he]
                exact H9.out.1.1 rfl
            · simp only [HUP.out]
              rfl
          have hwM : IntKind.wrap .i64 ((M : Int) + (mL : Int)) = ((M + mL : Nat) : Int) := by rw [IntKind.wrap_i64]; omega
          have c9 : w9.cell? ⟨qn, 9, none⟩ = some (.slice ma mL mc) := H9.out.2.2.2.cell 9
          go_wp2
          clear c9
          go_roundw
          case rel => exact ⟨k + 1, U, M + mL, by omega, by go_num, by go_num, by first | rfl | go_num, HT.out.1, HT.out.2.1, HT.out.2.2, by omega, by omega, H9.out.2.1⟩
          case measure => simp [intOf]; omega
    · have hlt' : ¬ (k : Int) < (pL : Int) := by omega
      have HE : Hid (Tq.joinB t.l = true ↔ U = M) := by
        have h1 := H4.out.1
        have h2 := H4.out.2.1
        have h3 := H4.out.2.2.1
        rw [List.take_of_length_le (by have := HPL.out.1; omega)] at h1 h2 h3
        have h : Tq.joinB t.l = true ↔ U = M := by
          unfold Tq.joinB
          rw [Bool.and_eq_true, List.all_eq_true, decide_eq_true_eq, h2, h3]
          exact ⟨fun h => h.2, fun h => ⟨h1, h⟩⟩
        exact h
      by_cases hUM : U = M
      · have hUM' : ((U : Int) == (M : Int)) = true := by rw [hUM]; simp
        have HY : Hid (Tq.joinB t.l = true) := HE.out.2 hUM
        clear hUM
        go_wp2
        go_ret
        exact ⟨true, rfl, ⟨fun _ => HY.out, fun _ => rfl⟩, H4.out.2.2.2.2.2⟩
      · have hUM' : ((U : Int) == (M : Int)) = false := by simp; omega
        have HY : Hid (¬ Tq.joinB t.l = true) := fun h => hUM (HE.out.1 h)
        clear hUM
        go_wp2
        go_ret
        exact ⟨false, rfl, ⟨fun h => (by cases h), fun h => absurd h HY.out⟩, H4.out.2.2.2.2.2⟩
end Go.Proofs.YtpidafpaffpnaaaGreatDoor
