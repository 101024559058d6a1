/- The landed snap's read. -/
import Derived.Test.YtpidafpaffpnaaaGreatDoorTwo14
namespace Go.Proofs.YtpidafpaffpnaaaGreatDoor
open Go.RowKit
theorem Tq.step1_no {ys : List UInt8} {bad : Bool} {last : ByteArray} {t : Tq.Tr} (h : ¬ Kq.Good (Pk.rT 200 ys bad).2.1 (Pk.rT 200 ys bad).2.2) : Tq.step1 ys bad last t = none := by
  unfold Tq.step1
  have h1 : Tq.gB (Pk.rT 200 ys bad).2.1 (Pk.rT 200 ys bad).2.2 = false := by
    cases h2 : Tq.gB (Pk.rT 200 ys bad).2.1 (Pk.rT 200 ys bad).2.2 with
    | false => rfl
    | true => exact absurd ((Tq.gB_iff _ _).1 h2) h
  rw [h1]
  rfl
theorem Tq.step1_low {ys : List UInt8} {bad : Bool} {last : ByteArray} {t : Tq.Tr} (h : Kq.lt last (Tq.tb (Pk.rT 200 ys bad).1) = false) : Tq.step1 ys bad last t = none := by
  unfold Tq.step1
  rw [h]
  simp
theorem Tq.step1_err {ys : List UInt8} {bad : Bool} {last : ByteArray} {t : Tq.Tr} (h : (Tq.load t (Tq.tb (Pk.rT 200 ys bad).1) (Kq.raw (Pk.rT 200 ys bad).2.1 (Pk.rT 200 ys bad).2.2).1).1 ≠ 0) : Tq.step1 ys bad last t = none := by
  unfold Tq.step1
  rw [decide_eq_false h]
  simp
theorem Tq.step1_yes {ys : List UInt8} {bad : Bool} {last : ByteArray} {t : Tq.Tr} (h : Kq.Good (Pk.rT 200 ys bad).2.1 (Pk.rT 200 ys bad).2.2) (h1 : Kq.lt last (Tq.tb (Pk.rT 200 ys bad).1) = true) (h2 : (Tq.load t (Tq.tb (Pk.rT 200 ys bad).1) (Kq.raw (Pk.rT 200 ys bad).2.1 (Pk.rT 200 ys bad).2.2).1).1 = 0) :
    Tq.step1 ys bad last t = some (Tq.tb (Pk.rT 200 ys bad).1, (Tq.load t (Tq.tb (Pk.rT 200 ys bad).1) (Kq.raw (Pk.rT 200 ys bad).2.1 (Pk.rT 200 ys bad).2.2).1).2, (Kq.raw (Pk.rT 200 ys bad).2.1 (Pk.rT 200 ys bad).2.2).2.1) := by
  unfold Tq.step1
  rw [(Tq.gB_iff _ _).2 h, h1, decide_eq_true h2]
  rfl
theorem Tq.rdE_no {k : Nat} {ys : List UInt8} {bad : Bool} {last : ByteArray} {t : Tq.Tr} (hk : 0 < k) (h : Tq.step1 ys bad last t = none) : Tq.rdE k ys bad last t = none := by
  obtain ⟨j, rfl⟩ : ∃ j, k = j + 1 := ⟨k - 1, by omega⟩
  rw [Tq.rdE_succ, h]
  rfl
theorem Tq.rdE_yes {k : Nat} {ys : List UInt8} {bad : Bool} {last : ByteArray} {t : Tq.Tr} {y : ByteArray × Tq.Tr × List UInt8} (hk : 0 < k) (h : Tq.step1 ys bad last t = some y) : Tq.rdE k ys bad last t = Tq.rdE (k - 1) y.2.2 false y.1 y.2.1 := by
  obtain ⟨j, rfl⟩ : ∃ j, k = j + 1 := ⟨k - 1, by omega⟩
  rw [Tq.rdE_succ, h, Option.bind_some, Nat.add_sub_cancel]
theorem leq_no14 {a b : ByteArray} (h : Kq.lt a b = true) : (Op.bytesLess b.toList a.toList || b.toList == a.toList) = false := by
  have h1 : Op.bytesLess b.toList a.toList = false := Kq.lt_asymm h
  have h2 : (b.toList == a.toList) = false := by
    cases e : (b.toList == a.toList) with
    | false => rfl
    | true => exact absurd (bytes_eq e).symm (Kq.lt_ne h)
  rw [h1, h2]
  rfl
theorem leq_yes14 {a b : ByteArray} (h : Kq.lt a b = false) : (Op.bytesLess b.toList a.toList || b.toList == a.toList) = true := by
  cases h1 : Op.bytesLess b.toList a.toList with
  | true => rfl
  | false =>
    have h2 := Kq.lt_total h h1
    rw [h2]
    simp
/-- What read leaves. -/
def ReadP14 (LT : Rep11) (w : World) (r : Option Tq.Tr) (e : Ending) (w' : World) : Prop :=
  (r = none → ∃ a, e = .returned (.tuple #[.pointer a, .bool false])) ∧
  (∀ t, r = some t → ∃ q F, e = .returned (.tuple #[dptr q, .bool true]) ∧ LT w' q t F ∧ Fine11 t ∧ ∀ k, F k → w.heap.size ≤ k) ∧ Below w.heap.size w w'
set_option maxRecDepth 20000 in
set_option maxHeartbeats 8000000 in
theorem read_any14 {LT : Rep11} (S : Specs11 LT) (v : Value) (ys : List UInt8) (w : World) (hv : Bs w v ys) (hl : ys.length ≤ 200000) (hS : Pa.Std w) :
    Calls Tryz.prog 91 #[v] w (ReadP14 LT w (Tq.rdT ys)) := by
  have HS : Hid (Specs11 LT ∧ Pa.Std w ∧ Bs w v ys ∧ ys.length ≤ 200000) := ⟨S, hS, hv, hl⟩
  obtain ⟨ao, vn, vc, rfl, hx1, hx2⟩ := hv
  clear S hS hl hx1 hx2
  obtain ⟨R, hR⟩ : ∃ R, R = Tq.rdT ys := ⟨_, rfl⟩
  rw [← hR]
  have HR : Hid (R = Tq.rdT ys) := hR
  clear hR
  go_enter Tryz.func91, Tryz.ntmps91
  go_wp2_with fail
  refine (Mine11.made14 HS.out.1 500 (by decide) (Below.refl _ w)).mono ?_
  rintro e w1 ⟨q, F1, rfl, hM, hb, hF⟩
  have H1 : Hid (Mine11 LT w w1 q ⟨500, []⟩ F1) := hM
  clear hM hb hF
  unfold dptr
  go_wp2_with fail
  refine (Pw.read_bs (.slice ao vn vc) ys w1 (HS.out.2.2.1.below H1.out.below) HS.out.2.2.2).mono ?_
  rintro e w2 ⟨qr, rfl, hq, hrd, hb⟩
  obtain ⟨B, hB⟩ : ∃ B, B = w1.heap.size := ⟨_, rfl⟩
  rw [← hB] at hrd
  have H2 : Hid (Rs14 LT w B w2 q ⟨500, []⟩ F1 qr ys false) := ⟨H1.out.later HS.out.1 hb, hrd, fun k hk => Or.inl (by rw [hB]; exact HS.out.1.lt H1.out.ld hk), by omega, by rw [hB]; exact H1.out.below.size⟩
  clear hq hrd hb hB H1
  go_wp2_with fail
  refine (Pw.rCount_any qr 500 ys false w2 H2.out.rd).mono ?_
  rintro e w3 ⟨rfl, hrd, hg⟩
  obtain ⟨c0, hc0⟩ : ∃ z, z = (Pk.rC 500 ys false).1 := ⟨_, rfl⟩
  obtain ⟨y0, hy0⟩ : ∃ z, z = (Pk.rC 500 ys false).2.1 := ⟨_, rfl⟩
  obtain ⟨b0, hb0⟩ : ∃ z, z = (Pk.rC 500 ys false).2.2 := ⟨_, rfl⟩
  have hci := rC_in10 500 ys false (by decide)
  obtain ⟨N, hN⟩ : ∃ N : Nat, N = c0.toNat := ⟨_, rfl⟩
  have hcN : c0 = (N : Int) := by rw [hN]; omega
  have HN : Hid (R = (Tq.rdE N y0 b0 ⟨#[]⟩ ⟨500, []⟩).bind fun x => if (!x.2.2 && x.2.1.isEmpty) = true then some x.1 else none) := by
    have h : R = (Tq.rdE N y0 b0 ⟨#[]⟩ ⟨500, []⟩).bind fun x => if (!x.2.2 && x.2.1.isEmpty) = true then some x.1 else none := by
      rw [HR.out, hN, hc0, hy0, hb0]
      rfl
    exact h
  have hN5 : N ≤ 500 := by omega
  rw [← hc0, hcN]
  rw [← hy0, ← hb0] at hrd
  have H3 : Hid (Rs14 LT w B w3 q ⟨500, []⟩ F1 qr y0 b0) := H2.out.read HS.out.1 hrd hg
  clear hrd hg hc0 hy0 hb0 hci hN hcN H2 HR
  go_wp2
  go_loopw [7, 19] (fun ls i wr => ∃ (k : Nat) (last : ByteArray) (y : List UInt8) (b : Bool) (t : Tq.Tr) (F : Nat → Prop), k ≤ N ∧ i = .int .i64 (k : Int) ∧ ls = .string last ∧ Rs14 LT w B wr q t F qr y b ∧ Tq.rdE N y0 b0 ⟨#[]⟩ ⟨500, []⟩ = Tq.rdE (N - k) y b last t) (fun _ i _ => N - (intOf i).toNat)
  case atStart => exact ⟨0, ⟨#[]⟩, y0, b0, _, F1, Nat.zero_le _, rfl, rfl, H3.out, rfl⟩
  case round =>
    obtain ⟨k, last, y, b, t, F, hk, rfl, rfl, hRs, hE⟩ := hrel
    have H4 : Hid (Rs14 LT w B wr q t F qr y b ∧ Tq.rdE N y0 b0 ⟨#[]⟩ ⟨500, []⟩ = Tq.rdE (N - k) y b last t) := ⟨hRs, hE⟩
    clear hRs hE H3
    by_cases hlt : k < N
    · have hlt' : (k : Int) < (N : Int) := by omega
      have hk0 : (0 : Int) ≤ (k : Int) := by omega
      have hwk : IntKind.wrap .i64 ((k : Int) + 1) = (k : Int) + 1 := by rw [IntKind.wrap_i64]; omega
      go_wp2_with fail
      refine (Pw.rText_any qr 200 y b wr H4.out.1.rd).mono ?_
      rintro e w5 ⟨rfl, hrd, hg⟩
      obtain ⟨p, hp⟩ : ∃ p, p = Tq.tb (Pk.rT 200 y b).1 := ⟨_, rfl⟩
      have hp' : (⟨(Pk.rT 200 y b).1.toArray⟩ : ByteArray) = p := hp.symm
      rw [hp']
      have HP : Hid (p = Tq.tb (Pk.rT 200 y b).1 ∧ p.size ≤ maxLen) := by
        refine ⟨hp, ?_⟩
        have h1 := Tq.rT_in 200 y b (by decide)
        rw [hp]
        show (Pk.rT 200 y b).1.toArray.size ≤ maxLen
        simp only [List.size_toArray]
        unfold maxLen
        omega
      have H5 : Hid (Rs14 LT w B w5 q t F qr (Pk.rT 200 y b).2.1 (Pk.rT 200 y b).2.2) := H4.out.1.read HS.out.1 hrd hg
      clear hrd hg hp hp'
      go_wp2_with fail
      refine (get_any10 B qr (Pk.rT 200 y b).2.1 (Pk.rT 200 y b).2.2 w5 H5.out.rd).mono ?_
      rintro e w6 ⟨hyes, hno, hg⟩
      by_cases hgood : Kq.Good (Pk.rT 200 y b).2.1 (Pk.rT 200 y b).2.2
      · obtain ⟨u, rfl, hrow, hrd⟩ := hyes hgood
        obtain ⟨n, hn⟩ : ∃ n, n = (Kq.raw (Pk.rT 200 y b).2.1 (Pk.rT 200 y b).2.2).1 := ⟨_, rfl⟩
        rw [← hn] at hrow ⊢
        have HRw : Hid (Tq.Rw n) := by
          have h := Tq.raw_in (Pk.rT 200 y b).2.1 (Pk.rT 200 y b).2.2
          rw [← hn] at h
          exact h
        have hrow2 := hrow
        obtain ⟨ma, mc, eu, hj1, hj2⟩ := row_form hrow
        obtain ⟨mL, hmL⟩ : ∃ z, z = n.names.length := ⟨_, rfl⟩
        rw [← hmL] at eu
        subst eu
        obtain ⟨qn, hqn⟩ : ∃ z, z = w6.heap.size := ⟨_, rfl⟩
        have H6 : Hid (Rs14 LT w B (w6.alloc (.cells #[.int .i64 n.made, .int .i64 n.changed, .int .i64 n.ver, .int .i64 n.kids, .int .i64 n.owner, .int .i64 n.len, .int .i64 n.cnt, .string n.data, .int .i64 n.next, .slice ma mL mc] 38)) q t F qr (Kq.raw (Pk.rT 200 y b).2.1 (Pk.rT 200 y b).2.2).2.1 false ∧ Cb (w6.alloc (.cells #[.int .i64 n.made, .int .i64 n.changed, .int .i64 n.ver, .int .i64 n.kids, .int .i64 n.owner, .int .i64 n.len, .int .i64 n.cnt, .string n.data, .int .i64 n.next, .slice ma mL mc] 38)) qn (k10 n (.slice ma mL mc)) 38 ∧ Ss (w6.alloc (.cells #[.int .i64 n.made, .int .i64 n.changed, .int .i64 n.ver, .int .i64 n.kids, .int .i64 n.owner, .int .i64 n.len, .int .i64 n.cnt, .string n.data, .int .i64 n.next, .slice ma mL mc] 38)) (.slice ma mL mc) n.names ∧ Off11 F (.slice ma mL mc)) := by
          have hba := (Below.refl _ w6).alloc (Nat.le_refl _) (.cells #[.int .i64 n.made, .int .i64 n.changed, .int .i64 n.ver, .int .i64 n.kids, .int .i64 n.owner, .int .i64 n.len, .int .i64 n.cnt, .string n.data, .int .i64 n.next, .slice ma mL mc] 38)
          have h5 := H5.out.read HS.out.1 hrd hg
          refine ⟨h5.later HS.out.1 hba, by rw [hqn]; exact Cb.made w6 (k10 n (.slice ma mL mc)) _, (ss_own14 hrow2).below hba, fun k hk e => ?_⟩
          have h1 := (hrow2.lt k hk).1
          have h2 := HS.out.1.lt H5.out.mine.ld e
          omega
        have HG : Hid (Kq.Good (Pk.rT 200 y b).2.1 (Pk.rT 200 y b).2.2 ∧ n = (Kq.raw (Pk.rT 200 y b).2.1 (Pk.rT 200 y b).2.2).1) := ⟨hgood, hn⟩
        clear hyes hno hg hgood hrow hrow2 hrd hn hj1 hj2 hmL H5
        unfold kv
        go_upto_region 8 with fail
        rw [← hqn]
        clear hqn
        generalize w6.alloc (.cells #[.int .i64 n.made, .int .i64 n.changed, .int .i64 n.ver, .int .i64 n.kids, .int .i64 n.owner, .int .i64 n.len, .int .i64 n.cnt, .string n.data, .int .i64 n.next, .slice ma mL mc] 38) = w7 at *
        by_cases hle : Kq.lt last p = true
        · have HLE : Hid (Kq.lt last p = true) := hle
          have hle' := leq_no14 hle
          clear hle
          obtain ⟨x, t8, hx⟩ : ∃ x t8, Tq.load t p n = (x, t8) := ⟨_, _, rfl⟩
          have HX : Hid (Tq.load t p n = (x, t8) ∧ Fine11 t8) := by
            have h := Tq.fine_load14 (p := p) H6.out.1.mine.fine HRw.out
            rw [hx] at h
            exact ⟨hx, h⟩
          clear hx
          obtain ⟨d0, d1, d2, d3, d4, d5, d6, d7, d8, d9⟩ := k14_all H6.out.2.1
          go_wp2_with fail
          clear d0 d1 d2 d3 d4 d5 d6 d7 d8 d9
          refine (H6.out.1.mine.loadd14 HS.out.1 HS.out.2.1 p n (.slice ma mL mc) H6.out.2.2.1 (fun _ => H6.out.2.2.2) (by have := HRw.out.many; omega) (fun s hs => by have := HRw.out.long s hs; omega) (by have := HRw.out.data; omega) HP.out.2 x t8 HX.out.1 HX.out.2).mono ?_
          rintro e w8 ⟨F8, rfl, hM, hmv⟩
          have H8 : Hid (Rs14 LT w B w8 q t8 F8 qr (Kq.raw (Pk.rT 200 y b).2.1 (Pk.rT 200 y b).2.2).2.1 false) := H6.out.1.moved hM hmv
          clear hM hmv H6
          by_cases hx0 : x = 0
          · have HE : Hid (Tq.rdE N y0 b0 ⟨#[]⟩ ⟨500, []⟩ = Tq.rdE (N - (k + 1)) (Kq.raw (Pk.rT 200 y b).2.1 (Pk.rT 200 y b).2.2).2.1 false p t8) := by
              have h1 := HP.out.1
              have h2 : (Tq.load t (Tq.tb (Pk.rT 200 y b).1) (Kq.raw (Pk.rT 200 y b).2.1 (Pk.rT 200 y b).2.2).1) = (x, t8) := by rw [← h1, ← HG.out.2]; exact HX.out.1
              have h3 := Tq.step1_yes (t := t) (last := last) HG.out.1 (by rw [← h1]; exact HLE.out) (by rw [h2]; exact hx0)
              rw [h2, ← h1] at h3
              have h4 : Tq.rdE N y0 b0 ⟨#[]⟩ ⟨500, []⟩ = Tq.rdE (N - (k + 1)) (Kq.raw (Pk.rT 200 y b).2.1 (Pk.rT 200 y b).2.2).2.1 false p t8 := by
                rw [H4.out.2, Tq.rdE_yes (by omega) h3, Nat.sub_sub]
              exact h4
            subst hx0
            go_wp2
            go_roundw
            case rel => exact ⟨k + 1, p, _, _, t8, F8, by omega, by go_num, rfl, H8.out, HE.out⟩
            case measure => simp [intOf]; omega
          · have HE : Hid (R = none) := by
              have h1 := HP.out.1
              have h2 : (Tq.load t (Tq.tb (Pk.rT 200 y b).1) (Kq.raw (Pk.rT 200 y b).2.1 (Pk.rT 200 y b).2.2).1) = (x, t8) := by rw [← h1, ← HG.out.2]; exact HX.out.1
              have h3 := Tq.step1_err (t := t) (last := last) (ys := y) (bad := b) (by rw [h2]; exact hx0)
              have h4 : R = none := by rw [HN.out, H4.out.2, Tq.rdE_no (by omega) h3]; rfl
              exact h4
            have hx0' : (x == 0) = false := by simp [hx0]
            clear hx0
            go_wp2
            go_ret2
            exact ⟨fun _ => ⟨none, rfl⟩, fun t ht => (by rw [HE.out] at ht; cases ht), H8.out.mine.below⟩
        · have HE : Hid (R = none) := by
            have h0 : Kq.lt last p = false := by simpa using hle
            have h3 := Tq.step1_low (t := t) (ys := y) (bad := b) (last := last) (by rw [← HP.out.1]; exact h0)
            have h4 : R = none := by rw [HN.out, H4.out.2, Tq.rdE_no (by omega) h3]; rfl
            exact h4
          have hle' := leq_yes14 (by simpa using hle : Kq.lt last p = false)
          clear hle
          go_wp2
          go_ret2
          exact ⟨fun _ => ⟨none, rfl⟩, fun t ht => (by rw [HE.out] at ht; cases ht), H6.out.1.mine.below⟩
      · obtain ⟨na, nc, rfl⟩ := hno hgood
        have HE : Hid (R = none) := by
          have h3 := Tq.step1_no (t := t) (last := last) hgood
          have h4 : R = none := by rw [HN.out, H4.out.2, Tq.rdE_no (by omega) h3]; rfl
          exact h4
        have HB6 : Hid (Below w.heap.size w w6) := Below.reader H5.out.mine.below hg (Nat.le_refl _) (by have := H5.out.hB; have := H5.out.hW; omega)
        clear hyes hno hg hgood H5
        unfold kv Kq.zero
        go_wp2
        go_ret2
        exact ⟨fun _ => ⟨none, rfl⟩, fun t ht => (by rw [HE.out] at ht; cases ht), HB6.out.alloc HB6.out.size _⟩
    · have hlt' : ¬ (k : Int) < (N : Int) := by omega
      have HE : Hid (R = if (!b && y.isEmpty) = true then some t else none) := by
        have h : R = if (!b && y.isEmpty) = true then some t else none := by
          rw [HN.out, H4.out.2, show N - k = 0 by omega, Tq.rdE_zero, Option.bind_some]
        exact h
      go_wp2_with fail
      refine (Pw.rEnd_any qr y b wr H4.out.1.rd).mono ?_
      rintro e w5 ⟨rfl, hw⟩
      rw [hw]
      clear hw w5
      cases hZ : (!b && y.isEmpty) with
      | true =>
        have HY : Hid (R = some t) := by
          have h : R = some t := by rw [HE.out, if_pos hZ]
          exact h
        clear hZ HE
        go_wp2
        go_ret2
        exact ⟨fun h => (by rw [HY.out] at h; cases h), fun t' ht => by
          rw [HY.out] at ht
          obtain rfl := Option.some.inj ht
          exact ⟨q, F, rfl, H4.out.1.mine.ld, H4.out.1.mine.fine, H4.out.1.mine.hi⟩, H4.out.1.mine.below⟩
      | false =>
        have HY : Hid (R = none) := by
          have h : R = none := by rw [HE.out, hZ]; rfl
          exact h
        clear hZ HE
        go_wp2
        go_ret2
        exact ⟨fun _ => ⟨_, rfl⟩, fun t' ht => (by rw [HY.out] at ht; cases ht), H4.out.1.mine.below⟩
end Go.Proofs.YtpidafpaffpnaaaGreatDoor
