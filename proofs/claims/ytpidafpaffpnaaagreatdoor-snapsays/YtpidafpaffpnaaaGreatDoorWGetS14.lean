/- The landed snap's Get; all that is asked of snap. -/
import Derived.Test.YtpidafpaffpnaaaGreatDoorWRead14
import Derived.Test.YtpidafpaffpnaaaGreatDoorWJoin14
import Derived.Test.YtpidafpaffpnaaaGreatDoorWPut14
import Derived.Test.YtpidafpaffpnaaaGreatDoorWSame14
namespace Go.Proofs.YtpidafpaffpnaaaGreatDoor
open Go.RowKit
/-- The tree that is made, the one that was read, and its paths. -/
structure Gt14 (LT : Rep11) (W w : World) (q : Nat) (t : Tq.Tr) (F : Nat → Prop) (q2 : Nat) (t2 : Tq.Tr) (F2 : Nat → Prop) (pv : Value) (ks : List ByteArray) : Prop where
  two : Two14 LT W w q t F q2 t2 F2
  kss : Ss w pv ks
  off : ks ≠ [] → ∀ k, pv.ownBlock = some k → ¬ F k
section
variable {LT : Rep11} {W w w' : World} {q q2 : Nat} {t t2 t' : Tq.Tr} {F F2 F' : Nat → Prop} {pv : Value} {ks : List ByteArray}
theorem Gt14.later (S : Specs11 LT) (h : Gt14 LT W w q t F q2 t2 F2 pv ks) (hb : Below w.heap.size w w') : Gt14 LT W w' q t F q2 t2 F2 pv ks := ⟨h.two.later S hb, h.kss.below hb, h.off⟩
theorem Gt14.moved (S : Specs11 LT) (h : Gt14 LT W w q t F q2 t2 F2 pv ks) (hM : Mine11 LT W w' q t' F') (hm : Moved w w' F F') : Gt14 LT W w' q t' F' q2 t2 F2 pv ks :=
  ⟨h.two.left S hM hm, h.kss.keep14 (fun hne k hk => hm.block k (h.kss.lt14 hne hk) (h.off hne k hk)), fun hne k hk e => by
    rcases hm.sub k e with e | e
    · exact h.off hne k hk e
    · have := h.kss.lt14 hne hk
      omega⟩
end
theorem Tq.load_next {t : Tq.Tr} {room : Int} {k : Nat} {p : ByteArray} {n : Kq.Kn} (hf : Fine11 t) (hl : ∀ e ∈ t.l, Tq.Lay e) (hr : ¬ room < (t.l.length : Int)) (hk : t.l[k]? = some (p, n)) : Tq.load ⟨room, t.l.take k⟩ p n = (0, ⟨room, t.l.take (k + 1)⟩) := by
  have hkl := (List.getElem?_eq_some_iff.1 hk).1
  have hpw : t.l.Pairwise fun a b => Kq.lt a.1 b.1 = true := List.pairwise_map.1 hf.rise
  have h1 : ∀ e ∈ t.l.take k, Kq.lt e.1 p = true := fun e he => by
    have h2 : t.l.take (k + 1) = t.l.take k ++ [(p, n)] := by rw [List.take_add_one, hk]; rfl
    have h3 : (t.l.take (k + 1)).Pairwise fun a b => Kq.lt a.1 b.1 = true := List.Pairwise.sublist (List.take_sublist _ _) hpw
    rw [h2] at h3
    exact (List.pairwise_append.1 h3).2.2 e he (p, n) (by simp)
  have h2 := Tq.load_end (t := ⟨room, t.l.take k⟩) (hl _ (List.mem_of_getElem? hk)) h1 (by show ((t.l.take k).length : Int) < room; rw [List.length_take]; omega)
  rw [h2, List.take_add_one, hk]
  rfl
theorem Tq.fine_take {t : Tq.Tr} {room : Int} (hf : Fine11 t) (h1 : ¬ (room < 1 ∨ 500 < room)) (hr : ¬ room < (t.l.length : Int)) (k : Nat) : Fine11 ⟨room, t.l.take k⟩ :=
  ⟨List.Pairwise.sublist (List.Sublist.map _ (List.take_sublist _ _)) hf.rise, by simp only []; omega, by simp only [List.length_take]; omega, fun e he => hf.nodes e (List.mem_of_mem_take he)⟩
set_option maxRecDepth 20000 in
set_option maxHeartbeats 8000000 in
theorem get_any14 {LT : Rep11} (S : Specs11 LT) (Q : SpecQ14 LT) (v : Value) (ys : List UInt8) (room : Int) (w : World) (hv : Bs w v ys) (hl : ys.length ≤ 200000) (hS : Pa.Std w) :
    Calls Tryz.prog 44 #[v, .int .i64 room] w (GetP14 LT w (Tq.getT ys room)) := by
  have HS : Hid (Specs11 LT ∧ SpecQ14 LT ∧ Pa.Std w ∧ Bs w v ys ∧ ys.length ≤ 200000) := ⟨S, Q, hS, hv, hl⟩
  obtain ⟨ao, vn, vc, rfl, hx1, hx2⟩ := hv
  clear S Q hS hl hx1 hx2
  obtain ⟨R, hR⟩ : ∃ R, R = Tq.getT ys room := ⟨_, rfl⟩
  rw [← hR]
  have HR : Hid (R = Tq.getT ys room) := hR
  clear hR
  go_enter Tryz.func44, Tryz.ntmps44
  go_wp2_with fail
  by_cases hroom : room < 1 ∨ 500 < room
  · refine (HS.out.1.new room w).mono ?_
    rintro e w1 ⟨hb, h⟩
    rw [if_pos hroom] at h
    subst h
    have HE : Hid (R = (1, none) ∧ Below w.heap.size w w1) := ⟨by rw [HR.out]; exact Tq.get_one hroom ys, hb⟩
    clear hb hroom
    go_wp2
    go_ret2
    rw [HE.out.1]
    exact ⟨fun _ => rfl, fun t ht => (by cases ht), HE.out.2⟩
  refine (Mine11.made14 HS.out.1 room hroom (Below.refl _ w)).mono ?_
  rintro e w1 ⟨q, F1, rfl, hM, hb, hF⟩
  have H1 : Hid (Mine11 LT w w1 q ⟨room, []⟩ F1 ∧ ¬ (room < 1 ∨ 500 < room)) := ⟨hM, hroom⟩
  clear hM hb hF hroom
  unfold dptr
  go_wp2_with fail
  refine (read_any14 HS.out.1 (.slice ao vn vc) ys w1 (HS.out.2.2.2.1.below H1.out.1.below) HS.out.2.2.2.2 (HS.out.2.2.1.below H1.out.1.below)).mono ?_
  rintro e w2 ⟨hno, hyes, hb⟩
  cases hrd : Tq.rdT ys with
  | none =>
    obtain ⟨a, rfl⟩ := hno hrd
    have HE : Hid (R = (3, none) ∧ Below w.heap.size w w2) := ⟨by rw [HR.out]; exact Tq.get_form H1.out.2 hrd, H1.out.1.below.trans (hb.mono H1.out.1.below.size)⟩
    clear hno hyes hb hrd
    go_wp2
    go_ret2
    rw [HE.out.1]
    exact ⟨fun _ => rfl, fun t ht => (by cases ht), HE.out.2⟩
  | some t2 =>
  obtain ⟨q2, F2, rfl, hL2, hf2, hF2⟩ := hyes t2 hrd
  have H2 : Hid (Two14 LT w w2 q ⟨room, []⟩ F1 q2 t2 F2 ∧ Tq.rdT ys = some t2 ∧ ∀ e ∈ t2.l, Tq.Lay e) := ⟨H1.out.1.and14 HS.out.1 hb hL2 hf2 hF2, hrd, (Tq.rdT_some hrd).2.1⟩
  clear hno hyes hb hrd hL2 hf2 hF2
  unfold dptr
  go_wp2_with fail
  refine (joined_any14 HS.out.1 HS.out.2.1 q2 t2 F2 w2 H2.out.1.two.ld H2.out.1.two.fine).mono ?_
  rintro e w3 ⟨J, rfl, hJ, hb⟩
  have H3 : Hid (Two14 LT w w3 q ⟨room, []⟩ F1 q2 t2 F2 ∧ (J = true ↔ Tq.joinB t2.l = true)) := ⟨H2.out.1.later HS.out.1 hb, hJ⟩
  clear hb hJ
  cases J with
  | false =>
    have HE : Hid (R = (3, none)) := by
      have h : R = (3, none) := by
        rw [HR.out]
        exact Tq.get_apart H1.out.2 H2.out.2.1 (fun h => by have h2 := H3.out.2.2 h; cases h2)
      exact h
    go_wp2
    go_ret2
    rw [HE.out]
    exact ⟨fun _ => rfl, fun t ht => (by cases ht), H3.out.1.one.below⟩
  | true =>
  have HJ : Hid (Tq.joinB t2.l = true) := H3.out.2.1 rfl
  go_wp2_with fail
  refine (HS.out.2.1.len q2 t2 F2 w3 H3.out.1.two.ld).mono ?_
  rintro e w4 ⟨rfl, hb⟩
  have H4 : Hid (Two14 LT w w4 q ⟨room, []⟩ F1 q2 t2 F2) := H3.out.1.later HS.out.1 hb
  clear hb H3
  obtain ⟨L, hL⟩ : ∃ L, L = t2.l.length := ⟨_, rfl⟩
  rw [← hL]
  have HL : Hid (L = t2.l.length) := hL
  clear hL
  by_cases hmany : room < (L : Int)
  · have HE : Hid (R = (2, none)) := by
      have h : R = (2, none) := by rw [HR.out]; exact Tq.get_many H1.out.2 H2.out.2.1 HJ.out (by rw [← HL.out]; exact hmany)
      exact h
    go_wp2
    go_ret2
    rw [HE.out]
    exact ⟨fun _ => rfl, fun t ht => (by cases ht), H4.out.one.below⟩
  have HE : Hid (R = (0, some ⟨room, t2.l⟩) ∧ ¬ room < (t2.l.length : Int)) := ⟨by rw [HR.out]; exact Tq.get_yes H1.out.2 H2.out.2.1 HJ.out (by rw [← HL.out]; exact hmany), by rw [← HL.out]; exact hmany⟩
  go_wp2_with fail
  refine (HS.out.2.1.paths q2 t2 F2 w4 H4.out.two.ld H4.out.two.fine).mono ?_
  rintro e w5 ⟨v5, rfl, hsq, hof, hb⟩
  have hss := hsq.ss
  obtain ⟨pa, pL, pc, rfl, hpL, hjj⟩ := hsq
  have HPL : Hid (pL = t2.l.length ∧ t2.l.length ≤ 500) := by
    have e : pL = t2.l.length := by rw [hpL]; unfold Tq.keys; simp
    have h2 := H4.out.two.fine.len
    have h3 := H4.out.two.fine.room
    exact ⟨e, by omega⟩
  have hpL5 : pL ≤ 500 := by have := HPL.out; omega
  have H5 : Hid (Gt14 LT w w5 q ⟨room, t2.l.take 0⟩ F1 q2 t2 F2 (.slice pa pL pc) (Tq.keys t2.l)) := ⟨H4.out.later HS.out.1 hb, hss, fun _ k hk e => hof k hk (HS.out.1.lt H4.out.one.ld e)⟩
  clear hss hpL hjj hof hb H4 hmany
  go_wp2
  go_loopw [41] (fun i wr => ∃ (k : Nat) (F : Nat → Prop), k ≤ pL ∧ i = .int .i64 (k : Int) ∧ Gt14 LT w wr q ⟨room, t2.l.take k⟩ F q2 t2 F2 (.slice pa pL pc) (Tq.keys t2.l)) (fun i _ => pL - (intOf i).toNat)
  case atStart => exact ⟨0, F1, Nat.zero_le _, rfl, H5.out⟩
  case round =>
    obtain ⟨k, F, hk, rfl, hG⟩ := hrel
    have H6 : Hid (Gt14 LT w wr q ⟨room, t2.l.take k⟩ F q2 t2 F2 (.slice pa pL pc) (Tq.keys t2.l)) := hG
    clear hG H5
    by_cases hlt : k < pL
    · have hlt' : (k : Int) < (pL : Int) := by omega
      have hk0 : (0 : Int) ≤ (k : Int) := by omega
      have hwk : IntKind.wrap .i64 ((k : Int) + 1) = (k : Int) + 1 := by rw [IntKind.wrap_i64]; omega
      obtain ⟨p, n, hp0, hp1, hp2, hp3, hp4, hp5⟩ := Tq.at14 H6.out.two.two.fine (k := k) (by have := HPL.out.1; omega)
      have HP : Hid (t2.l[k]? = some (p, n) ∧ Tq.find t2.l p = some n ∧ p.size ≤ maxLen ∧ Node11 n) := ⟨hp0, hp2, hp3, (H6.out.two.two.fine.nodes _ hp4).2⟩
      obtain ⟨av, n0, c0, e0, hj0, hcs⟩ := H6.out.kss
      obtain ⟨pg, po, hpa, lx⟩ := hcs k p hp1
      simp only [Value.slice.injEq] at e0
      obtain ⟨e1, e2, e3⟩ := e0
      subst hpa e1
      clear hcs e2 e3 hj0 hp0 hp1 hp2 hp3 hp4 hp5
      go_wp2_with fail
      clear lx
      refine (HS.out.2.1.node q2 t2 F2 p wr H6.out.two.two.ld H6.out.two.two.fine HP.out.2.2.1).mono ?_
      rintro e w7 ⟨hN, hb⟩
      obtain ⟨u, rfl, hsq, hof⟩ := hN.1 n HP.out.2.1
      have hss := hsq.ss
      obtain ⟨ma, mL, mc, rfl, hj1, hj2⟩ := hsq
      obtain ⟨qn, hqn⟩ : ∃ z, z = w7.heap.size := ⟨_, rfl⟩
      have H8 : Hid (Gt14 LT w (w7.alloc (.cells #[.int .i64 n.made, .int .i64 n.changed, .int .i64 n.ver, .int .i64 n.kids, .int .i64 n.owner, .int .i64 n.len, .int .i64 n.cnt, .string n.data, .int .i64 n.next, .slice ma mL mc] 38)) q ⟨room, t2.l.take k⟩ F q2 t2 F2 (.slice (some ⟨pg, po, none⟩) pL pc) (Tq.keys t2.l) ∧ Cb (w7.alloc (.cells #[.int .i64 n.made, .int .i64 n.changed, .int .i64 n.ver, .int .i64 n.kids, .int .i64 n.owner, .int .i64 n.len, .int .i64 n.cnt, .string n.data, .int .i64 n.next, .slice ma mL mc] 38)) qn (k10 n (.slice ma mL mc)) 38 ∧ Ss (w7.alloc (.cells #[.int .i64 n.made, .int .i64 n.changed, .int .i64 n.ver, .int .i64 n.kids, .int .i64 n.owner, .int .i64 n.len, .int .i64 n.cnt, .string n.data, .int .i64 n.next, .slice ma mL mc] 38)) (.slice ma mL mc) n.names ∧ (n.names ≠ [] → Off11 F (.slice ma mL mc))) := by
        have hba := (Below.refl _ w7).alloc (Nat.le_refl _) (.cells #[.int .i64 n.made, .int .i64 n.changed, .int .i64 n.ver, .int .i64 n.kids, .int .i64 n.owner, .int .i64 n.len, .int .i64 n.cnt, .string n.data, .int .i64 n.next, .slice ma mL mc] 38)
        exact ⟨(H6.out.later HS.out.1 hb).later HS.out.1 hba, by rw [hqn]; exact Cb.made w7 (k10 n (.slice ma mL mc)) _, hss.below hba, fun hne k hk e => hof hne k hk (HS.out.1.lt H6.out.two.one.ld e)⟩
      clear hN hb hof hss hj1 hj2 H6
      unfold kv
      go_upto_region 13 with fail
      rw [← hqn]
      clear hqn
      generalize w7.alloc (.cells #[.int .i64 n.made, .int .i64 n.changed, .int .i64 n.ver, .int .i64 n.kids, .int .i64 n.owner, .int .i64 n.len, .int .i64 n.cnt, .string n.data, .int .i64 n.next, .slice ma mL mc] 38) = w8 at *
      obtain ⟨d0, d1, d2, d3, d4, d5, d6, d7, d8, d9⟩ := k14_all H8.out.2.1
      go_wp2_with fail
      clear d0 d1 d2 d3 d4 d5 d6 d7 d8 d9
      refine (H8.out.1.two.one.loadd14 HS.out.1 HS.out.2.2.1 p n (.slice ma mL mc) H8.out.2.2.1 H8.out.2.2.2 (by have := HP.out.2.2.2.many; omega) (fun s hs => by have := Tq.name_in (HP.out.2.2.2.long s hs); omega) HP.out.2.2.2.data HP.out.2.2.1 0 ⟨room, t2.l.take (k + 1)⟩ (Tq.load_next H8.out.1.two.two.fine H2.out.2.2 (by have := HE.out.2; omega) HP.out.1) (Tq.fine_take H8.out.1.two.two.fine (by have := H1.out.2; omega) (by have := HE.out.2; omega) _)).mono ?_
      rintro e w9 ⟨F9, rfl, hM, hmv⟩
      have H9 : Hid (Gt14 LT w w9 q ⟨room, t2.l.take (k + 1)⟩ F9 q2 t2 F2 (.slice (some ⟨pg, po, none⟩) pL pc) (Tq.keys t2.l)) := H8.out.1.moved HS.out.1 hM hmv
      clear hM hmv H8
      go_wp2
      go_roundw
      case rel => exact ⟨k + 1, F9, by omega, by go_num, H9.out⟩
      case measure => simp [intOf]; omega
    · have hlt' : ¬ (k : Int) < (pL : Int) := by omega
      have HF : Hid (Mine11 LT w wr q ⟨room, t2.l⟩ F) := by
        have h := H6.out.two.one
        rw [List.take_of_length_le (by have := HPL.out.1; omega)] at h
        exact h
      go_wp2
      go_ret2
      rw [HE.out.1]
      exact ⟨fun h => (by cases h), fun t ht => by
        obtain rfl := Option.some.inj ht
        exact ⟨q, F, rfl, HF.out.ld, HF.out.fine, HF.out.hi⟩, HF.out.below⟩
theorem specS_any14 {LT : Rep11} (S : Specs11 LT) (Q : SpecQ14 LT) (K : SpecB10) : SpecS14 LT where
  put := put_any14 S Q K
  get := get_any14 S Q
  same := same_any14 S Q K
end Go.Proofs.YtpidafpaffpnaaaGreatDoor
