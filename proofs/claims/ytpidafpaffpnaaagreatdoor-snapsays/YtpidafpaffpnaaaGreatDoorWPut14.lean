/- The landed snap's Put. -/
import Derived.Test.YtpidafpaffpnaaaGreatDoorSpecs14
namespace Go.Proofs.YtpidafpaffpnaaaGreatDoor
open Go.RowKit

/-- Put under way: so many nodes are written. -/
structure Pu14 (w wr : World) (B H : Nat) (ks : List ByteArray) (pv v : Value) (m : Nat) (xs : List UInt8) : Prop where
  row : wr.ownsRow B 5 1 v m (bc xs)
  kss : Ss wr pv ks
  ps : ks ≠ [] → ∀ k, pv.ownBlock = some k → B ≤ k ∧ k < H ∧ v.ownBlock ≠ some k
  hH : H ≤ wr.heap.size
  hB : B = w.heap.size
  below : Below B w wr
theorem Ss.keep14 {w w' : World} {v : Value} {ss : List ByteArray} (h : Ss w v ss) (hk : ss ≠ [] → ∀ k, v.ownBlock = some k → w'.heap[k]? = w.heap[k]?) : Ss w' v ss := by
  obtain ⟨av, k, c, hv, hl, hc⟩ := h
  refine ⟨av, k, c, hv, hl, fun j s hs => ?_⟩
  obtain ⟨g, o, ha, h1⟩ := hc j s hs
  refine ⟨g, o, ha, ?_⟩
  have hne : ss ≠ [] := fun e => by rw [e] at hs; simp at hs
  rw [World.cell?_of_block (hk hne g (by rw [hv, ha]; rfl))]
  exact h1
theorem Ss.lt14 {w : World} {v : Value} {ss : List ByteArray} (h : Ss w v ss) (hne : ss ≠ []) {k : Nat} (hk : v.ownBlock = some k) : k < w.heap.size := by
  obtain ⟨av, n, c, rfl, hl, hc⟩ := h
  obtain ⟨s, r, rfl⟩ : ∃ s r, ss = s :: r := by
    cases ss with
    | nil => exact absurd rfl hne
    | cons s r => exact ⟨s, r, rfl⟩
  obtain ⟨g, o, rfl, h1⟩ := hc 0 s rfl
  have e : g = k := Option.some.inj hk
  rw [← e]
  exact World.block_lt_of_cell? w _ h1
section
variable {w wr w' : World} {B H m : Nat} {ks : List ByteArray} {pv v : Value} {xs : List UInt8}
theorem Pu14.later (h : Pu14 w wr B H ks pv v m xs) (hb : Below wr.heap.size wr w') : Pu14 w w' B H ks pv v m xs :=
  ⟨row_stays h.row (fun k e => hb.block k (h.row.lt k e).2), h.kss.below hb, h.ps, Nat.le_trans h.hH hb.size, h.hB, h.below.trans (hb.mono (by have := h.below.size; have := h.hB; omega))⟩
theorem Pu14.more {v' : Value} {m' : Nat} {ys : List UInt8} (h : Pu14 w wr B H ks pv v m xs) (ho : w'.ownsRow B 5 1 v' m' (bc ys)) (hb : Below B wr w') (hg : wr.grownBy w' v.ownBlock) (hv : v'.ownBlock = v.ownBlock ∨ v'.ownBlock = some wr.heap.size) : Pu14 w w' B H ks pv v' m' ys := by
  refine ⟨ho, h.kss.keep14 (fun hne k hk => hg.block k (h.kss.lt14 hne hk) (fun e => (h.ps hne k hk).2.2 e.symm)), fun hne k hk => ?_, Nat.le_trans h.hH hg.size, h.hB, h.below.trans hb⟩
  obtain ⟨h1, h2, h3⟩ := h.ps hne k hk
  refine ⟨h1, h2, fun e => ?_⟩
  rcases hv with hv | hv
  · exact h3 (by rw [← hv]; exact e)
  · rw [hv] at e
    have := Option.some.inj e
    have := h.hH
    omega
end
set_option maxRecDepth 20000 in
set_option maxHeartbeats 8000000 in
theorem put_any14 {LT : Rep11} (S : Specs11 LT) (Q : SpecQ14 LT) (K : SpecB10) (q : Nat) (t : Tq.Tr) (F : Nat → Prop) (w : World) (hL : LT w q t F) (hf : Fine11 t) (hd : ∀ e ∈ t.l, e.2.data.size ≤ 2000) :
    Calls Tryz.prog 40 #[dptr q] w fun e w' => ∃ a n c, e = .returned (.slice a n c) ∧ w'.ownsRow w.heap.size 5 1 (.slice a n c) n (bc (Tq.image t.l)) ∧ Below w.heap.size w w' := by
  have HS : Hid (SpecQ14 LT ∧ SpecB10 ∧ Fine11 t ∧ ∀ e ∈ t.l, e.2.data.size ≤ 2000) := ⟨Q, K, hf, hd⟩
  have HK : Hid (∀ w', Below w.heap.size w w' → LT w' q t F) := fun w' hb => S.keep hL (fun k hk => hb.block k (S.lt hL hk))
  clear S Q K hL hf hd
  unfold dptr
  go_enter Tryz.func40, Tryz.ntmps40
  go_wp2_with fail
  refine (HS.out.1.len q t F w (HK.out w (Below.refl _ _))).mono ?_
  rintro e w1 ⟨rfl, hb1⟩
  have H1 : Hid (Below w.heap.size w w1) := hb1
  clear hb1
  go_wp2_with fail
  refine (Pw.i64_any none 0 0 [] (t.l.length : Int) w1 rfl ⟨Nat.le_refl _, fun _ => ⟨rfl, rfl⟩, fun _ h => by cases h⟩ (by omega)).mono ?_
  rintro e w2 ⟨v2, rfl, ho, hb⟩
  have ho8 : w2.ownsRow w.heap.size 5 1 v2 8 (bc (Pk.be8 (t.l.length : Int))) := by simpa using ho.mono H1.out.size
  obtain ⟨a2, c2, rfl⟩ := own_shape ho8
  have H2 : Hid (w2.ownsRow w.heap.size 5 1 (.slice a2 8 c2) 8 (bc (Pk.be8 (t.l.length : Int))) ∧ Below w.heap.size w w2) := ⟨ho8, H1.out.trans (hb.mono H1.out.size)⟩
  clear ho hb ho8 H1
  go_wp2_with fail
  refine (HS.out.1.paths q t F w2 (HK.out w2 H2.out.2) HS.out.2.2.1).mono ?_
  rintro e w3 ⟨v3, rfl, hsq, hof, hb⟩
  have hss := hsq.ss
  obtain ⟨pa, pL, pc, rfl, hpL, hjj⟩ := hsq
  have HPL : Hid (pL = t.l.length ∧ t.l.length ≤ 500) := by
    have e : pL = t.l.length := by rw [hpL]; unfold Tq.keys; simp
    have h2 := HS.out.2.2.1.len
    have h3 := HS.out.2.2.1.room
    exact ⟨e, by omega⟩
  have hpL5 : pL ≤ 500 := by have := HPL.out; omega
  have H3 : Hid (Pu14 w w3 w.heap.size w3.heap.size (Tq.keys t.l) (.slice pa pL pc) (.slice a2 8 c2) 8 (Pk.be8 (t.l.length : Int))) := by
    refine ⟨row_stays H2.out.1 (fun k e => hb.block k (H2.out.1.lt k e).2), hss, fun hne k hk => ⟨?_, hss.lt14 hne hk, fun e => hof k hk (H2.out.1.lt k e).2⟩, Nat.le_refl _, rfl, H2.out.2.trans (hb.mono H2.out.2.size)⟩
    have h1 := hof k hk
    have h2 := H2.out.2.size
    simp only [] at h1
    omega
  clear hss hpL hjj hof hb H2
  obtain ⟨HH, hHH⟩ : ∃ z, z = w3.heap.size := ⟨_, rfl⟩
  rw [← hHH] at H3
  clear hHH
  go_wp2
  go_loopw [3, 14] (fun f i wr => ∃ (k m : Nat) (ab : Option Addr) (cb : Nat), k ≤ pL ∧ i = .int .i64 (k : Int) ∧ f = .slice ab m cb ∧ m = (Pk.be8 (t.l.length : Int) ++ (t.l.take k).flatMap Tq.node1).length ∧ m ≤ 8 + k * 50000 ∧ Pu14 w wr w.heap.size HH (Tq.keys t.l) (.slice pa pL pc) (.slice ab m cb) m (Pk.be8 (t.l.length : Int) ++ (t.l.take k).flatMap Tq.node1)) (fun _ i _ => pL - (intOf i).toNat)
  case atStart => exact ⟨0, 8, a2, c2, Nat.zero_le _, rfl, rfl, by simp [Pk.be8_len], by omega, by simpa using H3.out⟩
  case round =>
    obtain ⟨k, m, ab, cb, hk, rfl, rfl, hm, hmx, hP⟩ := hrel
    have HR : Hid (m = (Pk.be8 (t.l.length : Int) ++ (t.l.take k).flatMap Tq.node1).length ∧ m ≤ 8 + k * 50000 ∧ Pu14 w wr w.heap.size HH (Tq.keys t.l) (.slice pa pL pc) (.slice ab m cb) m (Pk.be8 (t.l.length : Int) ++ (t.l.take k).flatMap Tq.node1)) := ⟨hm, hmx, hP⟩
    clear hm hmx hP H3
    by_cases hlt : k < pL
    · have hlt' : (k : Int) < (pL : Int) := by omega
      have hk0 : (0 : Int) ≤ (k : Int) := by omega
      have hwk : IntKind.wrap .i64 ((k : Int) + 1) = (k : Int) + 1 := by rw [IntKind.wrap_i64]; omega
      obtain ⟨p, n, hp0, hp1, hp2, hp3, hp4, hp5⟩ := Tq.at14 HS.out.2.2.1 (k := k) (by have := HPL.out.1; omega)
      have HP : Hid (t.l[k]? = some (p, n) ∧ Tq.find t.l p = some n ∧ p.size ≤ maxLen ∧ p.size ≤ 200 ∧ n.data.size ≤ 2000 ∧ n.names.length ≤ 900 ∧ ∀ s ∈ n.names, s.size ≤ 40) := ⟨hp0, hp2, hp3, hp5, HS.out.2.2.2 _ hp4, (HS.out.2.2.1.nodes _ hp4).2.many, fun s hs => Tq.name_in ((HS.out.2.2.1.nodes _ hp4).2.long s hs)⟩
      obtain ⟨av, n0, c0, e0, hj0, hcs⟩ := HR.out.2.2.kss
      obtain ⟨pg, po, hpa, lx⟩ := hcs k p hp1
      simp only [Value.slice.injEq] at e0
      obtain ⟨e1, e2, e3⟩ := e0
      subst hpa e1
      clear hcs e2 e3 hj0 hp0 hp1 hp2 hp3 hp4 hp5
      go_wp2_with fail
      clear lx
      refine (HS.out.1.node q t F p wr (HK.out wr HR.out.2.2.below) HS.out.2.2.1 HP.out.2.2.1).mono ?_
      rintro e w7 ⟨hN, hb⟩
      obtain ⟨u, rfl, hsq, hof⟩ := hN.1 n HP.out.2.1
      have hss := hsq.ss
      obtain ⟨ma, mL, mc, rfl, hj1, hj2⟩ := hsq
      obtain ⟨qn, hqn⟩ : ∃ z, z = w7.heap.size := ⟨_, rfl⟩
      have H8 : Hid (Pu14 w (w7.alloc (.cells #[.int .i64 n.made, .int .i64 n.changed, .int .i64 n.ver, .int .i64 n.kids, .int .i64 n.owner, .int .i64 n.len, .int .i64 n.cnt, .string n.data, .int .i64 n.next, .slice ma mL mc] 38)) w.heap.size HH (Tq.keys t.l) (.slice (some ⟨pg, po, none⟩) pL pc) (.slice ab m cb) m (Pk.be8 (t.l.length : Int) ++ (t.l.take k).flatMap Tq.node1) ∧ Cb (w7.alloc (.cells #[.int .i64 n.made, .int .i64 n.changed, .int .i64 n.ver, .int .i64 n.kids, .int .i64 n.owner, .int .i64 n.len, .int .i64 n.cnt, .string n.data, .int .i64 n.next, .slice ma mL mc] 38)) qn (k10 n (.slice ma mL mc)) 38 ∧ Ss (w7.alloc (.cells #[.int .i64 n.made, .int .i64 n.changed, .int .i64 n.ver, .int .i64 n.kids, .int .i64 n.owner, .int .i64 n.len, .int .i64 n.cnt, .string n.data, .int .i64 n.next, .slice ma mL mc] 38)) (.slice ma mL mc) n.names ∧ (n.names ≠ [] → ∀ k, (Value.slice ma mL mc).ownBlock = some k → wr.heap.size ≤ k) ∧ wr.heap.size ≤ qn ∧ ∀ k, (Value.slice ab m cb).ownBlock = some k → k < wr.heap.size) := by
        have hba := (Below.refl _ w7).alloc (Nat.le_refl _) (.cells #[.int .i64 n.made, .int .i64 n.changed, .int .i64 n.ver, .int .i64 n.kids, .int .i64 n.owner, .int .i64 n.len, .int .i64 n.cnt, .string n.data, .int .i64 n.next, .slice ma mL mc] 38)
        refine ⟨(HR.out.2.2.later hb).later hba, by rw [hqn]; exact Cb.made w7 (k10 n (.slice ma mL mc)) _, hss.below hba, fun hne k hk => ?_, by rw [hqn]; exact hb.size, fun k hk => (HR.out.2.2.row.lt k hk).2⟩
        have := hof hne k hk
        simp only [] at this
        omega
      have HM : Hid (m = (Pk.be8 (t.l.length : Int) ++ (t.l.take k).flatMap Tq.node1).length ∧ m ≤ 8 + k * 50000) := ⟨HR.out.1, HR.out.2.1⟩
      obtain ⟨xs, hxs⟩ : ∃ xs, xs = Pk.be8 (t.l.length : Int) ++ (t.l.take k).flatMap Tq.node1 := ⟨_, rfl⟩
      rw [← hxs] at H8 HM
      have HXS : Hid (xs = Pk.be8 (t.l.length : Int) ++ (t.l.take k).flatMap Tq.node1) := hxs
      clear hN hb hof hss hj1 hj2 HR hxs
      unfold kv
      go_upto_region 6 with fail
      rw [← hqn]
      clear hqn
      generalize w7.alloc (.cells #[.int .i64 n.made, .int .i64 n.changed, .int .i64 n.ver, .int .i64 n.kids, .int .i64 n.owner, .int .i64 n.len, .int .i64 n.cnt, .string n.data, .int .i64 n.next, .slice ma mL mc] 38) = w8 at *
      go_wp2_with fail
      refine (Pw.text_bs (.slice none 0 0) [] p w8 (Bs.nil _) (by simp) (by have := HP.out.2.2.2.1; omega)).mono ?_
      rintro e w9 ⟨v9, rfl, hbs, hb⟩
      rw [List.nil_append] at hbs
      have H9 : Hid (Pu14 w w9 w.heap.size HH (Tq.keys t.l) (.slice (some ⟨pg, po, none⟩) pL pc) (.slice ab m cb) m xs ∧ Cb w9 qn (k10 n (.slice ma mL mc)) 38 ∧ Ss w9 (.slice ma mL mc) n.names ∧ Bs w9 v9 (Kq.tx p)) := ⟨H8.out.1.later hb, H8.out.2.1.below hb, H8.out.2.2.1.below hb, hbs⟩
      have HO : Hid ((n.names ≠ [] → ∀ k, (Value.slice ma mL mc).ownBlock = some k → wr.heap.size ≤ k) ∧ wr.heap.size ≤ qn ∧ ∀ k, (Value.slice ab m cb).ownBlock = some k → k < wr.heap.size) := H8.out.2.2.2
      obtain ⟨a9, m9, c9, rfl, hx1, hx2⟩ := hbs
      clear hb hx1 hx2 H8
      have HN9 : Hid (m + (Kq.tx p).length ≤ 1000000000) := by
        have e1 := Kq.tx_len p
        have e2 := HP.out.2.2.2.1
        have e3 := HM.out.2
        have e : m + (Kq.tx p).length ≤ 1000000000 := by omega
        exact e
      go_wp2_with (at_builtin; refine append_bs14 rfl _ _ rfl w.heap.size (.slice ab m cb) (.slice a9 m9 c9) m xs (Kq.tx p) w9 rfl rfl H9.out.1.row H9.out.1.below.size H9.out.2.2.2 HN9.out ?_)
      intro v10 w10 ho hb hg hv
      obtain ⟨mA, hmA⟩ : ∃ z, z = m + (Kq.tx p).length := ⟨_, rfl⟩
      rw [← hmA] at ho
      obtain ⟨aA, cA, rfl⟩ := own_shape ho
      have HA : Hid (Pu14 w w10 w.heap.size HH (Tq.keys t.l) (.slice (some ⟨pg, po, none⟩) pL pc) (.slice aA mA cA) mA (xs ++ Kq.tx p) ∧ Cb w10 qn (k10 n (.slice ma mL mc)) 38 ∧ Ss w10 (.slice ma mL mc) n.names ∧ mA = m + (Kq.tx p).length) := by
        refine ⟨H9.out.1.more ho hb hg hv, H9.out.2.1.keep (hg.block qn H9.out.2.1.lt (fun e => ?_)), H9.out.2.2.1.keep14 (fun hne k hk => hg.block k (H9.out.2.2.1.lt14 hne hk) (fun e => ?_)), hmA⟩
        · have h1 := HO.out.2.2 qn e.symm
          have h2 := HO.out.2.1
          omega
        · have h1 := HO.out.2.2 k e.symm
          have h2 := HO.out.1 hne k hk
          omega
      clear ho hb hg hv hmA H9
      obtain ⟨d0, d1, d2, d3, d4, d5, d6, d7, d8, d9⟩ := k14_all HA.out.2.1
      go_wp2_with fail
      clear d0 d1 d2 d3 d4 d5 d6 d7 d8 d9
      refine (HS.out.2.1.put n (.slice ma mL mc) w10 HA.out.2.2.1 (by have := HP.out.2.2.2.2.2.1; omega) (fun s hs => by have := HP.out.2.2.2.2.2.2 s hs; omega) HP.out.2.2.2.2.1).mono ?_
      rintro e wB ⟨vB, rfl, hbs, hnb, hb⟩
      have HB : Hid (Pu14 w wB w.heap.size HH (Tq.keys t.l) (.slice (some ⟨pg, po, none⟩) pL pc) (.slice aA mA cA) mA (xs ++ Kq.tx p) ∧ Bs wB vB (Kq.bytes n) ∧ mA = m + (Kq.tx p).length) := ⟨HA.out.1.later hb, hbs, HA.out.2.2.2⟩
      obtain ⟨aB, mB, cB, rfl, hx1, hx2⟩ := hbs
      clear hb hnb hx1 hx2 HA
      have HNB : Hid (mA + (Kq.bytes n).length ≤ 8 + (k + 1) * 50000 ∧ mA + (Kq.bytes n).length ≤ 1000000000) := by
        have e1 := Kq.tx_len p
        have e2 := HP.out.2.2.2.1
        have e3 := HM.out.2
        have e4 := HB.out.2.2
        have e5 := Kq.bytes_len n
        have e6 := Kq.flat_le n.names 40 HP.out.2.2.2.2.2.2
        have e7 := HP.out.2.2.2.2.1
        have e8 : n.names.length * (8 + 40) ≤ 900 * 48 := Nat.mul_le_mul_right 48 HP.out.2.2.2.2.2.1
        have e : mA + (Kq.bytes n).length ≤ 8 + (k + 1) * 50000 ∧ mA + (Kq.bytes n).length ≤ 1000000000 := by omega
        exact e
      go_wp2_with (at_builtin; refine append_bs14 rfl _ _ rfl w.heap.size (.slice aA mA cA) (.slice aB mB cB) mA (xs ++ Kq.tx p) (Kq.bytes n) wB rfl rfl HB.out.1.row HB.out.1.below.size HB.out.2.1 HNB.out.2 ?_)
      intro vC wC ho hb hg hv
      obtain ⟨mC, hmC⟩ : ∃ z, z = mA + (Kq.bytes n).length := ⟨_, rfl⟩
      rw [← hmC] at ho
      obtain ⟨aC, cC, rfl⟩ := own_shape ho
      have HC : Hid (mC = (Pk.be8 (t.l.length : Int) ++ (t.l.take (k + 1)).flatMap Tq.node1).length ∧ mC ≤ 8 + (k + 1) * 50000 ∧ Pu14 w wC w.heap.size HH (Tq.keys t.l) (.slice (some ⟨pg, po, none⟩) pL pc) (.slice aC mC cC) mC (Pk.be8 (t.l.length : Int) ++ (t.l.take (k + 1)).flatMap Tq.node1)) := by
        have h1 := HB.out.1.more ho hb hg hv
        have e1 : Pk.be8 (t.l.length : Int) ++ (t.l.take (k + 1)).flatMap Tq.node1 = xs ++ Kq.tx p ++ Kq.bytes n := by
          rw [List.take_add_one, HP.out.1, HXS.out, List.flatMap_append]
          unfold Tq.node1
          simp only [Option.toList_some, List.flatMap_cons, List.flatMap_nil, List.append_nil, List.append_assoc]
        rw [e1]
        refine ⟨?_, by rw [hmC]; exact HNB.out.1, by rw [List.append_assoc]; exact h1⟩
        rw [hmC, HB.out.2.2, HM.out.1, List.length_append, List.length_append]
      clear ho hb hg hv hmC HB
      go_wp2
      go_roundw
      case rel => exact ⟨k + 1, mC, aC, cC, by omega, by go_num, rfl, HC.out.1, HC.out.2.1, HC.out.2.2⟩
      case measure => simp [intOf]; omega
    · have hlt' : ¬ (k : Int) < (pL : Int) := by omega
      have HE : Hid (Pk.be8 (t.l.length : Int) ++ (t.l.take k).flatMap Tq.node1 = Tq.image t.l) := by
        have e : Pk.be8 (t.l.length : Int) ++ (t.l.take k).flatMap Tq.node1 = Tq.image t.l := by rw [List.take_of_length_le (by have := HPL.out.1; omega)]; rfl
        exact e
      go_wp2
      go_ret
      refine ⟨_, _, _, rfl, ?_, HR.out.2.2.below⟩
      rw [← HE.out]
      exact HR.out.2.2.row
end Go.Proofs.YtpidafpaffpnaaaGreatDoor
