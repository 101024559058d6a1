/- SnapSays' walk. -/
import Derived.Test.YtpidafpaffpnaaaGreatDoorLAwake14
import Derived.Test.YtpidafpaffpnaaaGreatDoorRfA14
import Derived.Test.YtpidafpaffpnaaaGreatDoorRGet14c
namespace Go.Proofs.YtpidafpaffpnaaaGreatDoor.Tq
theorem get_err14 {ys : List UInt8} {room : Int} (h : (getT ys room).2 = none) : ((getT ys room).1 == 0) = false := by
  unfold getT at h ⊢
  split
  · rfl
  · rename_i hr
    rw [if_neg hr] at h
    split
    · rfl
    · rename_i t ht
      rw [ht] at h
      simp only [] at h
      split
      · rename_i hj
        rw [if_pos hj] at h
        split
        · rfl
        · rename_i hl
          rw [if_neg hl] at h
          cases h
      · rfl
theorem get_ok14 {ys : List UInt8} {room : Int} {t : Tr} (h : (getT ys room).2 = some t) : (getT ys room).1 = 0 := by
  unfold getT at h ⊢
  split
  · rename_i hr
    rw [if_pos hr] at h
    cases h
  · rename_i hr
    rw [if_neg hr] at h
    split
    · rename_i ht
      rw [ht] at h
      cases h
    · rename_i t' ht
      rw [ht] at h
      simp only [] at h
      split
      · rename_i hj
        rw [if_pos hj] at h
        split
        · rename_i hl
          rw [if_pos hl] at h
          cases h
        · rfl
      · rename_i hj
        rw [if_neg hj] at h
        cases h
theorem Gr.long2 {t : Tr} {m : Nat} (h : Gr t m) (hm : m ≤ 20) (hl : t.l.length ≤ 60) : (image t.l).length ≤ 150000 := by
  have h1 := image_len (l := t.l) (m := m) (fun e he => ⟨(h.all (by omega) e he).2, len_good (h.fine.nodes e he).1, h.few e he⟩)
  have h2 : t.l.length * (1272 + m * 48) ≤ 60 * (1272 + 20 * 48) := Nat.mul_le_mul hl (by omega)
  omega
end Go.Proofs.YtpidafpaffpnaaaGreatDoor.Tq
namespace Go.Proofs.YtpidafpaffpnaaaGreatDoor
open Go.RowKit
theorem own14 {LT : Rep11} (S : Specs11 LT) (Q : SpecQ14 LT) (q : Nat) (t : Tq.Tr) (F : Nat → Prop) (room : Int) (w : World) (hL : LT w q t F) (hf : Fine11 t) :
    Calls Tryz.prog 47 #[dptr q, .int .i64 room] w fun e w' => ∃ q', e = .returned (dptr q') ∧ Rt11 w' q' room t.l ∧ Below w.heap.size w w' := by
  refine (own_any14 S ⟨Q.node, Q.paths⟩ q t F room w hL hf).mono ?_
  rintro e w' ⟨q', v, es, pv, rfl, hO, he⟩
  have h1 := (hO.ro (W := w) (F := fun _ => False) (fun k hk => hk.elim) (Nat.le_refl _)).rt (fun x hx => by
    have h2 : x.1 ∈ t.l := by rw [← he]; exact List.mem_map_of_mem hx
    have := (hf.nodes _ h2).2.many
    omega)
  rw [he] at h1
  exact ⟨q', rfl, h1, hO.below⟩
set_option maxRecDepth 20000 in
set_option maxHeartbeats 16000000 in
theorem says_any14 {LT : Rep11} (S : Specs11 LT) (Q : SpecQ14 LT) (G : SpecS14 LT) (va vb : Value) (a : List O) (b : List UInt8) (at_ : Int) (yb : UInt8) (room : Int) (W : World) (hS : Pa.Std W) (ha : Ol W va a) (hla : a.length ≤ maxLen) (hfa : ∀ o ∈ a, OFit o) (hb : Bs W vb b) (hlb : b.length ≤ maxLen) :
    Calls Tryz.prog 9 #[va, vb, .int .i64 at_, .int .u8 (yb.toNat : Int), .int .i64 room] W fun e w' => e = .returned (.bool true) ∧ Below W.heap.size W w' := by
  have HS : Hid (Specs11 LT ∧ SpecQ14 LT ∧ SpecS14 LT ∧ Pa.Std W) := ⟨S, Q, G, hS⟩
  have HA : Hid (Ol W va a ∧ a.length ≤ maxLen ∧ (∀ o ∈ a, OFit o) ∧ Bs W vb b) := ⟨ha, hla, hfa, hb⟩
  obtain ⟨aa, n, ac, rfl, hn, hjj⟩ := ha
  obtain ⟨ba, m, bc', rfl, hm, hjj2⟩ := hb
  have HM : Hid (m = b.length) := hm
  have hm1 : m ≤ 9223372036854775807 := by unfold maxLen at hlb; omega
  clear S Q G hS hla hfa hlb hn hm hjj hjj2
  go_enter Tryz.func9, Tryz.ntmps9
  go_wp2_with fail
  refine (awake_any14 HS.out.1 HS.out.2.1 HS.out.2.2.1 W HS.out.2.2.2).mono ?_
  rintro e w0 ⟨rfl, hb⟩
  have H0 : Hid (Below W.heap.size W w0) := hb
  clear hb
  go_wp2_with fail
  refine (grown_any14 HS.out.1 (.slice aa n ac) a w0 (HS.out.2.2.2.below H0.out) (HA.out.1.below H0.out) HA.out.2.1 HA.out.2.2.1).mono ?_
  rintro e w1 ⟨hbig, hok, hb⟩
  have H1 : Hid (Below W.heap.size W w1) := H0.out.trans (hb.mono H0.out.size)
  cases hga : greatB a with
  | true =>
    obtain rfl := hbig hga
    clear hbig hok hga hb
    go_wp2
    go_ret
    exact ⟨rfl, H1.out⟩
  | false =>
  obtain ⟨q, t, F, rfl, hL, hgr, hrm, hF⟩ := hok hga
  have M1 : Hid (Mine11 LT W w1 q t F ∧ Tq.Gr t a.length ∧ a.length ≤ 20 ∧ t.l.length ≤ 60) := ⟨⟨hL, hgr.fine, fun k hk => Nat.le_trans H0.out.size (hF k hk), H1.out⟩, hgr, great_no14 hga, hgr.sixty hrm⟩
  clear hbig hok hga hb hL hgr hrm hF H0 H1
  unfold dptr
  by_cases hbig : 1500 < m
  · have hbig' : (1500 : Int) < (m : Int) := by omega
    go_wp2
    go_ret
    exact ⟨rfl, M1.out.1.below⟩
  have hbig' : ¬ (1500 : Int) < (m : Int) := by omega
  go_wp2_with fail
  refine (M1.out.1.put14 HS.out.1 HS.out.2.2.1 M1.out.2.1).mono ?_
  rintro e w3 ⟨a3, n3, c3, rfl, hn3, ho, hM, hb⟩
  have M3 : Hid (Mine11 LT W w3 q t F ∧ w3.ownsRow W.heap.size 5 1 (.slice a3 n3 c3) n3 (bc (Tq.image t.l)) ∧ n3 = (Tq.image t.l).length) := ⟨hM, ho.mono M1.out.1.below.size, hn3⟩
  clear hn3 ho hM hb
  have hn15 : n3 ≤ 150000 := by have h1 := M3.out.2.2; have h2 := M1.out.2.1.long2 M1.out.2.2.1 M1.out.2.2.2; omega
  go_upto_region 7 with fail
  refine wp_region_held_drew (S := fun w' => Below w3.heap.size w3 w') (by kernel_rfl) (Below.refl _ _).drew (fun _ => ?_)
  refine wpAnyH_more (S' := fun w' => Below w3.drew.heap.size w3.drew w') (fun w' h => below_drew h) _ _ _ _ ?_
  have J0 : Hid (Mine11 LT W w3.drew q t F ∧ w3.drew.ownsRow W.heap.size 5 1 (.slice a3 n3 c3) n3 (bc (Tq.image t.l))) := ⟨M3.out.1.later HS.out.1 (Below.refl _ _).drew, row_stays M3.out.2.1 (fun k e => (Below.refl _ _).drew.block k (M3.out.2.1.lt k e).2)⟩
  have HN3 : Hid (n3 = (Tq.image t.l).length) := M3.out.2.2
  clear M3
  generalize w3.drew = s0 at *
  obtain ⟨Z, hZ⟩ : ∃ Z : ByteArray, Z = ⟨(Tq.image t.l).toArray⟩ := ⟨_, rfl⟩
  have HZ : Hid (Z = ⟨(Tq.image t.l).toArray⟩) := hZ
  have hzz : (Z.toList == Z.toList) = true := by simp
  clear hZ
  refine' take_at (i := 0) (d := 32) (v := _) rfl rfl (by kernel_rfl) (by kernel_rfl) (by kernel_rfl) (fun _ _ _ h => h) (Or.inl ⟨by rfl, ?h0⟩) (Below.refl _ _) ?_
  case h0 =>
    intro w hSw
    go_simp
    with_reducible rfl
  simp only [List.setIfInBounds_toArray, List.set_cons_zero, List.set_cons_succ]
  refine' take_at (i := 1) (d := 33) (v := _) rfl rfl (by kernel_rfl) (by kernel_rfl) (by kernel_rfl) (fun _ _ _ h => h) (Or.inl ⟨by rfl, ?h1⟩) (Below.refl _ _) ?_
  case h1 =>
    intro w hSw
    have hcv := ((Bs.own J0.out.2).below hSw).conv
    rw [← HZ.out] at hcv
    go_simp
    with_reducible rfl
  simp only [List.setIfInBounds_toArray, List.set_cons_zero, List.set_cons_succ]
  refine' take_at (i := 2) (d := 34) (v := _) rfl rfl (by kernel_rfl) (by kernel_rfl) (by kernel_rfl) (fun _ _ _ h => h) (Or.inl ⟨by rfl, ?h2⟩) (Below.refl _ _) ?_
  case h2 =>
    intro w hSw
    go_simp
    with_reducible rfl
  simp only [List.setIfInBounds_toArray, List.set_cons_zero, List.set_cons_succ]
  refine wpAnyH_ready (rs := [3]) (by kernel_rfl) (by simp) ?_
  refine AllReadyH.cons (o := _) rfl (fun KQ hKQ => ?_) AllReadyH.nil
  go_simp
  refine (own14 HS.out.1 HS.out.2.1 q t F 60 s0 J0.out.1.ld J0.out.1.fine).mono ?_
  rintro e s1 ⟨q4, rfl, hrt, hb⟩
  have J1 : Hid (Below W.heap.size W s1 ∧ s1.ownsRow W.heap.size 5 1 (.slice a3 n3 c3) n3 (bc (Tq.image t.l)) ∧ Rt11 s1 q4 60 t.l) := ⟨J0.out.1.below.trans (hb.mono J0.out.1.below.size), row_stays J0.out.2 (fun k e => hb.block k (J0.out.2.lt k e).2), hrt⟩
  clear hrt
  unfold dptr
  simp only []
  refine hKQ.out _ _ hb (fun _ => ?_)
  refine wpAnyH_more (S' := fun w' => Below s1.heap.size s1 w') (fun w' h => hb.trans (h.mono hb.size)) _ _ _ _ ?_
  clear hKQ KQ hb J0
  refine wpAnyH_ready (rs := [4]) (by kernel_rfl) (by simp) ?_
  refine AllReadyH.cons (o := _) rfl (fun KQ hKQ => ?_) AllReadyH.nil
  go_simp
  refine (refPutT_any14 q4 60 t.l s1 J1.out.2.2 (by have := M1.out.2.2.2; omega) (M1.out.2.1.long2 M1.out.2.2.1 M1.out.2.2.2) (fun e he => by
    have h1 := M1.out.2.1.all (by have := M1.out.2.2.1; omega) e he
    have h2 := M1.out.2.1.few e he
    have h3 := M1.out.2.2.1
    exact ⟨Tq.len_good (M1.out.2.1.fine.nodes e he).1, by omega, h1.2.long, by have := h1.2.data; omega⟩)).mono ?_
  rintro e s2 ⟨u2, rfl, hbs, hb⟩
  have J2 : Hid (Below W.heap.size W s2 ∧ s2.ownsRow W.heap.size 5 1 (.slice a3 n3 c3) n3 (bc (Tq.image t.l)) ∧ Bs s2 u2 (Tq.image t.l)) := ⟨J1.out.1.trans (hb.mono J1.out.1.size), row_stays J1.out.2.1 (fun k e => hb.block k (J1.out.2.1.lt k e).2), hbs⟩
  obtain ⟨a5, n5, c5, rfl, hj1, hj2⟩ := hbs
  clear hj1 hj2 J1
  simp only []
  refine hKQ.out _ _ hb (fun _ => ?_)
  refine wpAnyH_more (S' := fun w' => Below s2.heap.size s2 w') (fun w' h => hb.trans (h.mono hb.size)) _ _ _ _ ?_
  clear hKQ KQ hb
  refine' take_at (i := 5) (d := 37) (v := _) rfl rfl (by kernel_rfl) (by kernel_rfl) (by kernel_rfl) (fun _ _ _ h => h) (Or.inl ⟨by rfl, ?h5⟩) (Below.refl _ _) ?_
  case h5 =>
    intro w hSw
    have hcv := (J2.out.2.2.below hSw).conv
    rw [← HZ.out] at hcv
    go_simp
    with_reducible rfl
  simp only [List.setIfInBounds_toArray, List.set_cons_zero, List.set_cons_succ]
  refine' take_at (i := 6) (d := 38) (v := _) rfl rfl (by kernel_rfl) (by kernel_rfl) (by kernel_rfl) (fun _ _ _ h => h) (Or.inl ⟨by rfl, ?h6⟩) (Below.refl _ _) ?_
  case h6 =>
    intro w hSw
    go_simp
    with_reducible rfl
  simp only [List.setIfInBounds_toArray, List.set_cons_zero, List.set_cons_succ]
  refine wpAnyH_done (by kernel_rfl) ?_ _
  have HBB : Hid (b.length ≤ 200000) := by
    have h1 := HM.out
    have h2 : b.length ≤ 200000 := by omega
    exact h2
  by_cases hin : 0 ≤ at_ ∧ at_ < (n3 : Int)
  · obtain ⟨A, hA⟩ : ∃ A : Nat, at_ = (A : Int) := ⟨at_.toNat, by omega⟩
    subst hA
    have hA0 : (0 : Int) ≤ (A : Int) := hin.1
    have hA1 : (A : Int) < (n3 : Int) := hin.2
    have hAn : A < n3 := by omega
    clear hin
    obtain ⟨g3, hg3⟩ : ∃ g, a3 = some ⟨g, 0, none⟩ := by
      obtain ⟨a', c', e, _, hg⟩ := row_form J2.out.2.1
      obtain ⟨g, hg⟩ := hg (by omega)
      simp only [Value.slice.injEq] at e
      exact ⟨g, by rw [e.1, hg]⟩
    subst hg3
    obtain ⟨c0, hc0⟩ : ∃ c0, (Tq.image t.l)[A]? = some c0 := ⟨_, List.getElem?_eq_getElem (by have := HN3.out; omega)⟩
    have lx : s2.cell? ⟨g3, A, none⟩ = some (.int .u8 (c0.toNat : Int)) := by
      rw [J2.out.2.1.cellAt A (by omega)]
      unfold bc
      rw [List.getElem?_map, hc0]
      rfl
    have f0 : s2.frozen? ⟨g3, A, none⟩ = false := by
      rcases J2.out.2.1.2 with ⟨e, _⟩ | ⟨g, cap, cur, e, _, hh, _⟩
      · cases e
      · have eg : g = g3 := by
          have h := congrArg Value.ownBlock e
          simpa [Value.ownBlock] using h.symm
        rw [eg] at hh
        simp [World.frozen?, hh]
    obtain ⟨cy, hcy⟩ : ∃ cy : UInt8, cy = c0 ^^^ yb := ⟨_, rfl⟩
    have hxo : bits .xor .u8 (c0.toNat : Int) (yb.toNat : Int) = (cy.toNat : Int) := by rw [hcy]; exact xor8 c0 yb
    clear hcy
    obtain ⟨zs, hzs⟩ : ∃ zs, zs = (Tq.image t.l).set A cy := ⟨_, rfl⟩
    have H6 : Hid (Below W.heap.size W (s2.setCell ⟨g3, A, none⟩ (.int .u8 (cy.toNat : Int))) ∧ Bs (s2.setCell ⟨g3, A, none⟩ (.int .u8 (cy.toNat : Int))) (.slice (some ⟨g3, 0, none⟩) n3 c3) zs ∧ zs.length ≤ 200000 ∧ Bs (s2.setCell ⟨g3, A, none⟩ (.int .u8 (cy.toNat : Int))) (.slice ba m bc') b ∧ b.length ≤ 200000) := by
      have h1 := own_set (i := A) cy J2.out.2.1
      rw [← hzs] at h1
      have h2 := (J2.out.2.1.lt g3 rfl).1
      have h3 := J2.out.1.grown (grownBy_setCell s2 ⟨g3, A, none⟩ (.int .u8 (cy.toNat : Int))) J2.out.1.size (fun k hk => by simp at hk; omega)
      refine ⟨h3, Bs.own h1, ?_, HA.out.2.2.2.below h3, HBB.out⟩
      rw [hzs, List.length_set, ← HN3.out]
      omega
    clear hzs hc0 J2
    go_upto_region 11 with fail
    clear lx f0 hxo
    generalize s2.setCell ⟨g3, A, none⟩ (.int .u8 (cy.toNat : Int)) = w6 at *
    obtain ⟨a3, ha3⟩ : ∃ z, z = (some ⟨g3, 0, none⟩ : Option Addr) := ⟨_, rfl⟩
    rw [← ha3] at H6 ⊢
    clear ha3
    obtain ⟨a4, b4, eu, hj1, hj2⟩ : ∃ a4 b4, (Value.slice ba m bc') = .slice a4 m b4 ∧ True ∧ True := ⟨_, _, rfl, trivial, trivial⟩
    clear eu hj1 hj2 a4 b4
    go_wp2
    go_loopw [59] (fun i wr => ∃ k : Nat, k ≤ 2 ∧ i = .int .i64 (k : Int) ∧ Below w6.heap.size w6 wr) (fun i _ => 2 - (intOf i).toNat)
    case atStart => exact ⟨0, by omega, rfl, Below.refl _ _⟩
    case round =>
    obtain ⟨k, hk, rfl, hb⟩ := hrel
    have H7 : Hid (Below w6.heap.size w6 wr) := hb
    clear hb
    have i0 : ∀ w, (Instr.index 91 (.agg #[.slice a3 n3 c3, .slice ba m bc']) (.int .i64 0)).run Tryz.prog w = .ok (.slice a3 n3 c3) w := fun _ => by kernel_rfl
    have i1 : ∀ w, (Instr.index 91 (.agg #[.slice a3 n3 c3, .slice ba m bc']) (.int .i64 1)).run Tryz.prog w = .ok (.slice ba m bc') w := fun _ => by kernel_rfl
    match k, hk with
    | 0, _ =>
      as_aux_lemma =>
        simp only [Int.natCast_zero]
        go_wp2_with fail
        refine (HS.out.2.2.1.get (.slice a3 n3 c3) zs room wr (H6.out.2.1.below H7.out) H6.out.2.2.1 (HS.out.2.2.2.below (H6.out.1.trans (H7.out.mono H6.out.1.size)))).mono ?_
        rintro e w8 ⟨hno, hyes, hb⟩
        have H8 : Hid (Below w6.heap.size w6 w8 ∧ Below W.heap.size W w8) := by
          have h := H7.out.trans (hb.mono H7.out.size)
          exact ⟨h, H6.out.1.trans (h.mono H6.out.1.size)⟩
        obtain ⟨r, hr⟩ : ∃ r, r = Tq.getT zs room := ⟨_, rfl⟩
        have HRR : Hid (r = Tq.getT zs room) := hr
        rw [← hr] at hno hyes
        clear hr
        obtain ⟨x, ot⟩ := r
        simp only [] at hno hyes
        cases ot with
        | none =>
          as_aux_lemma =>
            obtain rfl := hno rfl
            have hx0 : (x == 0) = false := by
              have h := Tq.get_err14 (ys := zs) (room := room) (by rw [← HRR.out])
              rw [← HRR.out] at h
              exact h
            have hxx : (x == x) = true := by simp
            have hx1 : (x != 0) = true := by unfold bne; rw [hx0]; rfl
            have hx2 : (!(x != 0)) = false := by rw [hx1]; rfl
            clear hno hyes hb
            go_wp2_with fail
            refine (refGetT_any14 (.slice a3 n3 c3) zs room w8 (Bs.below H6.out.2.1 H8.out.1) H6.out.2.2.1).mono ?_
            rintro e w9 ⟨hno, hyes, hb⟩
            rw [← HRR.out] at hno
            obtain rfl := hno rfl
            have H9 : Hid (Below w6.heap.size w6 w9) := H8.out.1.trans (hb.mono H8.out.1.size)
            clear hno hyes hb
            simp only []
            go_wp2
            go_roundw
            case rel => exact ⟨1, by omega, by first | rfl | go_num, H9.out⟩
            case measure => simp [intOf]
        | some t2 =>
          as_aux_lemma =>
            obtain ⟨q2, F2, rfl, hL2, hf2, hF2⟩ := hyes t2 rfl
            have HX : Hid (x = 0 ∧ t2.l.length ≤ 500) := by
              have h := Tq.get_ok14 (ys := zs) (room := room) (t := t2) (by rw [← HRR.out])
              rw [← HRR.out] at h
              have h2 := hf2.len
              have h3 := hf2.room
              exact ⟨h, by omega⟩
            obtain rfl : x = 0 := HX.out.1
            have H8b : Hid (LT w8 q2 t2 F2 ∧ Fine11 t2) := ⟨hL2, hf2⟩
            clear hno hyes hb hL2 hf2 hF2
            unfold dptr
            go_wp2_with fail
            refine (refGetT_any14 (.slice a3 n3 c3) zs room w8 (Bs.below H6.out.2.1 H8.out.1) H6.out.2.2.1).mono ?_
            rintro e w9 ⟨hno, hyes, hb⟩
            rw [← HRR.out] at hyes
            obtain ⟨q3, rfl, hrt⟩ := hyes t2 rfl
            have H9 : Hid (Below w6.heap.size w6 w9 ∧ Rt11 w9 q3 t2.room t2.l ∧ LT w9 q2 t2 F2) := ⟨H8.out.1.trans (hb.mono H8.out.1.size), hrt, HS.out.1.keep H8b.out.1 (fun k hk => hb.block k (HS.out.1.lt H8b.out.1 hk))⟩
            clear hno hyes hb hrt
            unfold dptr
            simp only []
            go_wp2_with fail
            refine (own14 HS.out.1 HS.out.2.1 q2 t2 F2 room w9 H9.out.2.2 H8b.out.2).mono ?_
            rintro e wA ⟨q4, rfl, hrt4, hb⟩
            have HA : Hid (Below w6.heap.size w6 wA ∧ Rt11 wA q3 t2.room t2.l ∧ Rt11 wA q4 room t2.l) := ⟨H9.out.1.trans (hb.mono H9.out.1.size), H9.out.2.1.later hb, hrt4⟩
            clear hb hrt4
            unfold dptr
            go_wp2_with fail
            refine (sameTree_any11 q4 q3 room t2.room t2.l wA HA.out.2.2 HA.out.2.1 (by have := HX.out.2; omega)).mono ?_
            rintro e wB ⟨rfl, hb⟩
            have HB : Hid (Below w6.heap.size w6 wB) := HA.out.1.trans (hb.mono HA.out.1.size)
            clear hb
            go_wp2
            go_roundw
            case rel => exact ⟨1, by omega, by first | rfl | go_num, HB.out⟩
            case measure => simp [intOf]
    | 1, _ =>
      as_aux_lemma =>
        simp only [Int.natCast_one]
        go_wp2_with fail
        refine (HS.out.2.2.1.get (.slice ba m bc') b room wr (H6.out.2.2.2.1.below H7.out) H6.out.2.2.2.2 (HS.out.2.2.2.below (H6.out.1.trans (H7.out.mono H6.out.1.size)))).mono ?_
        rintro e w8 ⟨hno, hyes, hb⟩
        have H8 : Hid (Below w6.heap.size w6 w8 ∧ Below W.heap.size W w8) := by
          have h := H7.out.trans (hb.mono H7.out.size)
          exact ⟨h, H6.out.1.trans (h.mono H6.out.1.size)⟩
        obtain ⟨r, hr⟩ : ∃ r, r = Tq.getT b room := ⟨_, rfl⟩
        have HRR : Hid (r = Tq.getT b room) := hr
        rw [← hr] at hno hyes
        clear hr
        obtain ⟨x, ot⟩ := r
        simp only [] at hno hyes
        cases ot with
        | none =>
          as_aux_lemma =>
            obtain rfl := hno rfl
            have hx0 : (x == 0) = false := by
              have h := Tq.get_err14 (ys := b) (room := room) (by rw [← HRR.out])
              rw [← HRR.out] at h
              exact h
            have hxx : (x == x) = true := by simp
            have hx1 : (x != 0) = true := by unfold bne; rw [hx0]; rfl
            have hx2 : (!(x != 0)) = false := by rw [hx1]; rfl
            clear hno hyes hb
            go_wp2_with fail
            refine (refGetT_any14 (.slice ba m bc') b room w8 (Bs.below H6.out.2.2.2.1 H8.out.1) H6.out.2.2.2.2).mono ?_
            rintro e w9 ⟨hno, hyes, hb⟩
            rw [← HRR.out] at hno
            obtain rfl := hno rfl
            have H9 : Hid (Below w6.heap.size w6 w9) := H8.out.1.trans (hb.mono H8.out.1.size)
            clear hno hyes hb
            simp only []
            go_wp2
            go_roundw
            case rel => exact ⟨2, by omega, by first | rfl | go_num, H9.out⟩
            case measure => simp [intOf]
        | some t2 =>
          as_aux_lemma =>
            obtain ⟨q2, F2, rfl, hL2, hf2, hF2⟩ := hyes t2 rfl
            have HX : Hid (x = 0 ∧ t2.l.length ≤ 500) := by
              have h := Tq.get_ok14 (ys := b) (room := room) (t := t2) (by rw [← HRR.out])
              rw [← HRR.out] at h
              have h2 := hf2.len
              have h3 := hf2.room
              exact ⟨h, by omega⟩
            obtain rfl : x = 0 := HX.out.1
            have H8b : Hid (LT w8 q2 t2 F2 ∧ Fine11 t2) := ⟨hL2, hf2⟩
            clear hno hyes hb hL2 hf2 hF2
            unfold dptr
            go_wp2_with fail
            refine (refGetT_any14 (.slice ba m bc') b room w8 (Bs.below H6.out.2.2.2.1 H8.out.1) H6.out.2.2.2.2).mono ?_
            rintro e w9 ⟨hno, hyes, hb⟩
            rw [← HRR.out] at hyes
            obtain ⟨q3, rfl, hrt⟩ := hyes t2 rfl
            have H9 : Hid (Below w6.heap.size w6 w9 ∧ Rt11 w9 q3 t2.room t2.l ∧ LT w9 q2 t2 F2) := ⟨H8.out.1.trans (hb.mono H8.out.1.size), hrt, HS.out.1.keep H8b.out.1 (fun k hk => hb.block k (HS.out.1.lt H8b.out.1 hk))⟩
            clear hno hyes hb hrt
            unfold dptr
            simp only []
            go_wp2_with fail
            refine (own14 HS.out.1 HS.out.2.1 q2 t2 F2 room w9 H9.out.2.2 H8b.out.2).mono ?_
            rintro e wA ⟨q4, rfl, hrt4, hb⟩
            have HA : Hid (Below w6.heap.size w6 wA ∧ Rt11 wA q3 t2.room t2.l ∧ Rt11 wA q4 room t2.l) := ⟨H9.out.1.trans (hb.mono H9.out.1.size), H9.out.2.1.later hb, hrt4⟩
            clear hb hrt4
            unfold dptr
            go_wp2_with fail
            refine (sameTree_any11 q4 q3 room t2.room t2.l wA HA.out.2.2 HA.out.2.1 (by have := HX.out.2; omega)).mono ?_
            rintro e wB ⟨rfl, hb⟩
            have HB : Hid (Below w6.heap.size w6 wB) := HA.out.1.trans (hb.mono HA.out.1.size)
            clear hb
            go_wp2
            go_roundw
            case rel => exact ⟨2, by omega, by first | rfl | go_num, HB.out⟩
            case measure => simp [intOf]
    | 2, _ =>
      have h2 : ¬ (((2 : Nat) : Int) < 2) := by decide
      go_wp2
      go_ret
      exact ⟨rfl, H6.out.1.trans (H7.out.mono H6.out.1.size)⟩
  · have HIN : Hid (¬ (0 ≤ at_ ∧ at_ < (n3 : Int))) := hin
    obtain ⟨zs, hzs⟩ : ∃ zs, zs = Tq.image t.l := ⟨_, rfl⟩
    have H6 : Hid (Below W.heap.size W s2 ∧ Bs s2 (.slice a3 n3 c3) zs ∧ zs.length ≤ 200000 ∧ Bs s2 (.slice ba m bc') b ∧ b.length ≤ 200000) := by
      refine ⟨J2.out.1, by rw [hzs]; exact Bs.own J2.out.2.1, ?_, HA.out.2.2.2.below J2.out.1, HBB.out⟩
      rw [hzs, ← HN3.out]
      omega
    clear hzs J2
    obtain ⟨w6, hw6⟩ : ∃ w6, w6 = s2 := ⟨_, rfl⟩
    rw [← hw6] at H6 ⊢
    clear hw6
    by_cases hat : 0 ≤ at_
    · have hat2 : ¬ at_ < (n3 : Int) := fun h => hin ⟨hat, h⟩
      clear hin
      obtain ⟨a4, b4, eu, hj1, hj2⟩ : ∃ a4 b4, (Value.slice ba m bc') = .slice a4 m b4 ∧ True ∧ True := ⟨_, _, rfl, trivial, trivial⟩
      clear eu hj1 hj2 a4 b4
      go_wp2
      go_loopw [59] (fun i wr => ∃ k : Nat, k ≤ 2 ∧ i = .int .i64 (k : Int) ∧ Below w6.heap.size w6 wr) (fun i _ => 2 - (intOf i).toNat)
      case atStart => exact ⟨0, by omega, rfl, Below.refl _ _⟩
      case round =>
      obtain ⟨k, hk, rfl, hb⟩ := hrel
      have H7 : Hid (Below w6.heap.size w6 wr) := hb
      clear hb
      have i0 : ∀ w, (Instr.index 91 (.agg #[.slice a3 n3 c3, .slice ba m bc']) (.int .i64 0)).run Tryz.prog w = .ok (.slice a3 n3 c3) w := fun _ => by kernel_rfl
      have i1 : ∀ w, (Instr.index 91 (.agg #[.slice a3 n3 c3, .slice ba m bc']) (.int .i64 1)).run Tryz.prog w = .ok (.slice ba m bc') w := fun _ => by kernel_rfl
      match k, hk with
      | 0, _ =>
        as_aux_lemma =>
          simp only [Int.natCast_zero]
          go_wp2_with fail
          refine (HS.out.2.2.1.get (.slice a3 n3 c3) zs room wr (H6.out.2.1.below H7.out) H6.out.2.2.1 (HS.out.2.2.2.below (H6.out.1.trans (H7.out.mono H6.out.1.size)))).mono ?_
          rintro e w8 ⟨hno, hyes, hb⟩
          have H8 : Hid (Below w6.heap.size w6 w8 ∧ Below W.heap.size W w8) := by
            have h := H7.out.trans (hb.mono H7.out.size)
            exact ⟨h, H6.out.1.trans (h.mono H6.out.1.size)⟩
          obtain ⟨r, hr⟩ : ∃ r, r = Tq.getT zs room := ⟨_, rfl⟩
          have HRR : Hid (r = Tq.getT zs room) := hr
          rw [← hr] at hno hyes
          clear hr
          obtain ⟨x, ot⟩ := r
          simp only [] at hno hyes
          cases ot with
          | none =>
            as_aux_lemma =>
              obtain rfl := hno rfl
              have hx0 : (x == 0) = false := by
                have h := Tq.get_err14 (ys := zs) (room := room) (by rw [← HRR.out])
                rw [← HRR.out] at h
                exact h
              have hxx : (x == x) = true := by simp
              have hx1 : (x != 0) = true := by unfold bne; rw [hx0]; rfl
              have hx2 : (!(x != 0)) = false := by rw [hx1]; rfl
              clear hno hyes hb
              go_wp2_with fail
              refine (refGetT_any14 (.slice a3 n3 c3) zs room w8 (Bs.below H6.out.2.1 H8.out.1) H6.out.2.2.1).mono ?_
              rintro e w9 ⟨hno, hyes, hb⟩
              rw [← HRR.out] at hno
              obtain rfl := hno rfl
              have H9 : Hid (Below w6.heap.size w6 w9) := H8.out.1.trans (hb.mono H8.out.1.size)
              clear hno hyes hb
              simp only []
              go_wp2
              go_roundw
              case rel => exact ⟨1, by omega, by first | rfl | go_num, H9.out⟩
              case measure => simp [intOf]
          | some t2 =>
            as_aux_lemma =>
              obtain ⟨q2, F2, rfl, hL2, hf2, hF2⟩ := hyes t2 rfl
              have HX : Hid (x = 0 ∧ t2.l.length ≤ 500) := by
                have h := Tq.get_ok14 (ys := zs) (room := room) (t := t2) (by rw [← HRR.out])
                rw [← HRR.out] at h
                have h2 := hf2.len
                have h3 := hf2.room
                exact ⟨h, by omega⟩
              obtain rfl : x = 0 := HX.out.1
              have H8b : Hid (LT w8 q2 t2 F2 ∧ Fine11 t2) := ⟨hL2, hf2⟩
              clear hno hyes hb hL2 hf2 hF2
              unfold dptr
              go_wp2_with fail
              refine (refGetT_any14 (.slice a3 n3 c3) zs room w8 (Bs.below H6.out.2.1 H8.out.1) H6.out.2.2.1).mono ?_
              rintro e w9 ⟨hno, hyes, hb⟩
              rw [← HRR.out] at hyes
              obtain ⟨q3, rfl, hrt⟩ := hyes t2 rfl
              have H9 : Hid (Below w6.heap.size w6 w9 ∧ Rt11 w9 q3 t2.room t2.l ∧ LT w9 q2 t2 F2) := ⟨H8.out.1.trans (hb.mono H8.out.1.size), hrt, HS.out.1.keep H8b.out.1 (fun k hk => hb.block k (HS.out.1.lt H8b.out.1 hk))⟩
              clear hno hyes hb hrt
              unfold dptr
              simp only []
              go_wp2_with fail
              refine (own14 HS.out.1 HS.out.2.1 q2 t2 F2 room w9 H9.out.2.2 H8b.out.2).mono ?_
              rintro e wA ⟨q4, rfl, hrt4, hb⟩
              have HA : Hid (Below w6.heap.size w6 wA ∧ Rt11 wA q3 t2.room t2.l ∧ Rt11 wA q4 room t2.l) := ⟨H9.out.1.trans (hb.mono H9.out.1.size), H9.out.2.1.later hb, hrt4⟩
              clear hb hrt4
              unfold dptr
              go_wp2_with fail
              refine (sameTree_any11 q4 q3 room t2.room t2.l wA HA.out.2.2 HA.out.2.1 (by have := HX.out.2; omega)).mono ?_
              rintro e wB ⟨rfl, hb⟩
              have HB : Hid (Below w6.heap.size w6 wB) := HA.out.1.trans (hb.mono HA.out.1.size)
              clear hb
              go_wp2
              go_roundw
              case rel => exact ⟨1, by omega, by first | rfl | go_num, HB.out⟩
              case measure => simp [intOf]
      | 1, _ =>
        as_aux_lemma =>
          simp only [Int.natCast_one]
          go_wp2_with fail
          refine (HS.out.2.2.1.get (.slice ba m bc') b room wr (H6.out.2.2.2.1.below H7.out) H6.out.2.2.2.2 (HS.out.2.2.2.below (H6.out.1.trans (H7.out.mono H6.out.1.size)))).mono ?_
          rintro e w8 ⟨hno, hyes, hb⟩
          have H8 : Hid (Below w6.heap.size w6 w8 ∧ Below W.heap.size W w8) := by
            have h := H7.out.trans (hb.mono H7.out.size)
            exact ⟨h, H6.out.1.trans (h.mono H6.out.1.size)⟩
          obtain ⟨r, hr⟩ : ∃ r, r = Tq.getT b room := ⟨_, rfl⟩
          have HRR : Hid (r = Tq.getT b room) := hr
          rw [← hr] at hno hyes
          clear hr
          obtain ⟨x, ot⟩ := r
          simp only [] at hno hyes
          cases ot with
          | none =>
            as_aux_lemma =>
              obtain rfl := hno rfl
              have hx0 : (x == 0) = false := by
                have h := Tq.get_err14 (ys := b) (room := room) (by rw [← HRR.out])
                rw [← HRR.out] at h
                exact h
              have hxx : (x == x) = true := by simp
              have hx1 : (x != 0) = true := by unfold bne; rw [hx0]; rfl
              have hx2 : (!(x != 0)) = false := by rw [hx1]; rfl
              clear hno hyes hb
              go_wp2_with fail
              refine (refGetT_any14 (.slice ba m bc') b room w8 (Bs.below H6.out.2.2.2.1 H8.out.1) H6.out.2.2.2.2).mono ?_
              rintro e w9 ⟨hno, hyes, hb⟩
              rw [← HRR.out] at hno
              obtain rfl := hno rfl
              have H9 : Hid (Below w6.heap.size w6 w9) := H8.out.1.trans (hb.mono H8.out.1.size)
              clear hno hyes hb
              simp only []
              go_wp2
              go_roundw
              case rel => exact ⟨2, by omega, by first | rfl | go_num, H9.out⟩
              case measure => simp [intOf]
          | some t2 =>
            as_aux_lemma =>
              obtain ⟨q2, F2, rfl, hL2, hf2, hF2⟩ := hyes t2 rfl
              have HX : Hid (x = 0 ∧ t2.l.length ≤ 500) := by
                have h := Tq.get_ok14 (ys := b) (room := room) (t := t2) (by rw [← HRR.out])
                rw [← HRR.out] at h
                have h2 := hf2.len
                have h3 := hf2.room
                exact ⟨h, by omega⟩
              obtain rfl : x = 0 := HX.out.1
              have H8b : Hid (LT w8 q2 t2 F2 ∧ Fine11 t2) := ⟨hL2, hf2⟩
              clear hno hyes hb hL2 hf2 hF2
              unfold dptr
              go_wp2_with fail
              refine (refGetT_any14 (.slice ba m bc') b room w8 (Bs.below H6.out.2.2.2.1 H8.out.1) H6.out.2.2.2.2).mono ?_
              rintro e w9 ⟨hno, hyes, hb⟩
              rw [← HRR.out] at hyes
              obtain ⟨q3, rfl, hrt⟩ := hyes t2 rfl
              have H9 : Hid (Below w6.heap.size w6 w9 ∧ Rt11 w9 q3 t2.room t2.l ∧ LT w9 q2 t2 F2) := ⟨H8.out.1.trans (hb.mono H8.out.1.size), hrt, HS.out.1.keep H8b.out.1 (fun k hk => hb.block k (HS.out.1.lt H8b.out.1 hk))⟩
              clear hno hyes hb hrt
              unfold dptr
              simp only []
              go_wp2_with fail
              refine (own14 HS.out.1 HS.out.2.1 q2 t2 F2 room w9 H9.out.2.2 H8b.out.2).mono ?_
              rintro e wA ⟨q4, rfl, hrt4, hb⟩
              have HA : Hid (Below w6.heap.size w6 wA ∧ Rt11 wA q3 t2.room t2.l ∧ Rt11 wA q4 room t2.l) := ⟨H9.out.1.trans (hb.mono H9.out.1.size), H9.out.2.1.later hb, hrt4⟩
              clear hb hrt4
              unfold dptr
              go_wp2_with fail
              refine (sameTree_any11 q4 q3 room t2.room t2.l wA HA.out.2.2 HA.out.2.1 (by have := HX.out.2; omega)).mono ?_
              rintro e wB ⟨rfl, hb⟩
              have HB : Hid (Below w6.heap.size w6 wB) := HA.out.1.trans (hb.mono HA.out.1.size)
              clear hb
              go_wp2
              go_roundw
              case rel => exact ⟨2, by omega, by first | rfl | go_num, HB.out⟩
              case measure => simp [intOf]
      | 2, _ =>
        have h2 : ¬ (((2 : Nat) : Int) < 2) := by decide
        go_wp2
        go_ret
        exact ⟨rfl, H6.out.1.trans (H7.out.mono H6.out.1.size)⟩
    · clear hin
      obtain ⟨a4, b4, eu, hj1, hj2⟩ : ∃ a4 b4, (Value.slice ba m bc') = .slice a4 m b4 ∧ True ∧ True := ⟨_, _, rfl, trivial, trivial⟩
      clear eu hj1 hj2 a4 b4
      go_wp2
      go_loopw [59] (fun i wr => ∃ k : Nat, k ≤ 2 ∧ i = .int .i64 (k : Int) ∧ Below w6.heap.size w6 wr) (fun i _ => 2 - (intOf i).toNat)
      case atStart => exact ⟨0, by omega, rfl, Below.refl _ _⟩
      case round =>
      obtain ⟨k, hk, rfl, hb⟩ := hrel
      have H7 : Hid (Below w6.heap.size w6 wr) := hb
      clear hb
      have i0 : ∀ w, (Instr.index 91 (.agg #[.slice a3 n3 c3, .slice ba m bc']) (.int .i64 0)).run Tryz.prog w = .ok (.slice a3 n3 c3) w := fun _ => by kernel_rfl
      have i1 : ∀ w, (Instr.index 91 (.agg #[.slice a3 n3 c3, .slice ba m bc']) (.int .i64 1)).run Tryz.prog w = .ok (.slice ba m bc') w := fun _ => by kernel_rfl
      match k, hk with
      | 0, _ =>
        as_aux_lemma =>
          simp only [Int.natCast_zero]
          go_wp2_with fail
          refine (HS.out.2.2.1.get (.slice a3 n3 c3) zs room wr (H6.out.2.1.below H7.out) H6.out.2.2.1 (HS.out.2.2.2.below (H6.out.1.trans (H7.out.mono H6.out.1.size)))).mono ?_
          rintro e w8 ⟨hno, hyes, hb⟩
          have H8 : Hid (Below w6.heap.size w6 w8 ∧ Below W.heap.size W w8) := by
            have h := H7.out.trans (hb.mono H7.out.size)
            exact ⟨h, H6.out.1.trans (h.mono H6.out.1.size)⟩
          obtain ⟨r, hr⟩ : ∃ r, r = Tq.getT zs room := ⟨_, rfl⟩
          have HRR : Hid (r = Tq.getT zs room) := hr
          rw [← hr] at hno hyes
          clear hr
          obtain ⟨x, ot⟩ := r
          simp only [] at hno hyes
          cases ot with
          | none =>
            as_aux_lemma =>
              obtain rfl := hno rfl
              have hx0 : (x == 0) = false := by
                have h := Tq.get_err14 (ys := zs) (room := room) (by rw [← HRR.out])
                rw [← HRR.out] at h
                exact h
              have hxx : (x == x) = true := by simp
              have hx1 : (x != 0) = true := by unfold bne; rw [hx0]; rfl
              have hx2 : (!(x != 0)) = false := by rw [hx1]; rfl
              clear hno hyes hb
              go_wp2_with fail
              refine (refGetT_any14 (.slice a3 n3 c3) zs room w8 (Bs.below H6.out.2.1 H8.out.1) H6.out.2.2.1).mono ?_
              rintro e w9 ⟨hno, hyes, hb⟩
              rw [← HRR.out] at hno
              obtain rfl := hno rfl
              have H9 : Hid (Below w6.heap.size w6 w9) := H8.out.1.trans (hb.mono H8.out.1.size)
              clear hno hyes hb
              simp only []
              go_wp2
              go_roundw
              case rel => exact ⟨1, by omega, by first | rfl | go_num, H9.out⟩
              case measure => simp [intOf]
          | some t2 =>
            as_aux_lemma =>
              obtain ⟨q2, F2, rfl, hL2, hf2, hF2⟩ := hyes t2 rfl
              have HX : Hid (x = 0 ∧ t2.l.length ≤ 500) := by
                have h := Tq.get_ok14 (ys := zs) (room := room) (t := t2) (by rw [← HRR.out])
                rw [← HRR.out] at h
                have h2 := hf2.len
                have h3 := hf2.room
                exact ⟨h, by omega⟩
              obtain rfl : x = 0 := HX.out.1
              have H8b : Hid (LT w8 q2 t2 F2 ∧ Fine11 t2) := ⟨hL2, hf2⟩
              clear hno hyes hb hL2 hf2 hF2
              unfold dptr
              go_wp2_with fail
              refine (refGetT_any14 (.slice a3 n3 c3) zs room w8 (Bs.below H6.out.2.1 H8.out.1) H6.out.2.2.1).mono ?_
              rintro e w9 ⟨hno, hyes, hb⟩
              rw [← HRR.out] at hyes
              obtain ⟨q3, rfl, hrt⟩ := hyes t2 rfl
              have H9 : Hid (Below w6.heap.size w6 w9 ∧ Rt11 w9 q3 t2.room t2.l ∧ LT w9 q2 t2 F2) := ⟨H8.out.1.trans (hb.mono H8.out.1.size), hrt, HS.out.1.keep H8b.out.1 (fun k hk => hb.block k (HS.out.1.lt H8b.out.1 hk))⟩
              clear hno hyes hb hrt
              unfold dptr
              simp only []
              go_wp2_with fail
              refine (own14 HS.out.1 HS.out.2.1 q2 t2 F2 room w9 H9.out.2.2 H8b.out.2).mono ?_
              rintro e wA ⟨q4, rfl, hrt4, hb⟩
              have HA : Hid (Below w6.heap.size w6 wA ∧ Rt11 wA q3 t2.room t2.l ∧ Rt11 wA q4 room t2.l) := ⟨H9.out.1.trans (hb.mono H9.out.1.size), H9.out.2.1.later hb, hrt4⟩
              clear hb hrt4
              unfold dptr
              go_wp2_with fail
              refine (sameTree_any11 q4 q3 room t2.room t2.l wA HA.out.2.2 HA.out.2.1 (by have := HX.out.2; omega)).mono ?_
              rintro e wB ⟨rfl, hb⟩
              have HB : Hid (Below w6.heap.size w6 wB) := HA.out.1.trans (hb.mono HA.out.1.size)
              clear hb
              go_wp2
              go_roundw
              case rel => exact ⟨1, by omega, by first | rfl | go_num, HB.out⟩
              case measure => simp [intOf]
      | 1, _ =>
        as_aux_lemma =>
          simp only [Int.natCast_one]
          go_wp2_with fail
          refine (HS.out.2.2.1.get (.slice ba m bc') b room wr (H6.out.2.2.2.1.below H7.out) H6.out.2.2.2.2 (HS.out.2.2.2.below (H6.out.1.trans (H7.out.mono H6.out.1.size)))).mono ?_
          rintro e w8 ⟨hno, hyes, hb⟩
          have H8 : Hid (Below w6.heap.size w6 w8 ∧ Below W.heap.size W w8) := by
            have h := H7.out.trans (hb.mono H7.out.size)
            exact ⟨h, H6.out.1.trans (h.mono H6.out.1.size)⟩
          obtain ⟨r, hr⟩ : ∃ r, r = Tq.getT b room := ⟨_, rfl⟩
          have HRR : Hid (r = Tq.getT b room) := hr
          rw [← hr] at hno hyes
          clear hr
          obtain ⟨x, ot⟩ := r
          simp only [] at hno hyes
          cases ot with
          | none =>
            as_aux_lemma =>
              obtain rfl := hno rfl
              have hx0 : (x == 0) = false := by
                have h := Tq.get_err14 (ys := b) (room := room) (by rw [← HRR.out])
                rw [← HRR.out] at h
                exact h
              have hxx : (x == x) = true := by simp
              have hx1 : (x != 0) = true := by unfold bne; rw [hx0]; rfl
              have hx2 : (!(x != 0)) = false := by rw [hx1]; rfl
              clear hno hyes hb
              go_wp2_with fail
              refine (refGetT_any14 (.slice ba m bc') b room w8 (Bs.below H6.out.2.2.2.1 H8.out.1) H6.out.2.2.2.2).mono ?_
              rintro e w9 ⟨hno, hyes, hb⟩
              rw [← HRR.out] at hno
              obtain rfl := hno rfl
              have H9 : Hid (Below w6.heap.size w6 w9) := H8.out.1.trans (hb.mono H8.out.1.size)
              clear hno hyes hb
              simp only []
              go_wp2
              go_roundw
              case rel => exact ⟨2, by omega, by first | rfl | go_num, H9.out⟩
              case measure => simp [intOf]
          | some t2 =>
            as_aux_lemma =>
              obtain ⟨q2, F2, rfl, hL2, hf2, hF2⟩ := hyes t2 rfl
              have HX : Hid (x = 0 ∧ t2.l.length ≤ 500) := by
                have h := Tq.get_ok14 (ys := b) (room := room) (t := t2) (by rw [← HRR.out])
                rw [← HRR.out] at h
                have h2 := hf2.len
                have h3 := hf2.room
                exact ⟨h, by omega⟩
              obtain rfl : x = 0 := HX.out.1
              have H8b : Hid (LT w8 q2 t2 F2 ∧ Fine11 t2) := ⟨hL2, hf2⟩
              clear hno hyes hb hL2 hf2 hF2
              unfold dptr
              go_wp2_with fail
              refine (refGetT_any14 (.slice ba m bc') b room w8 (Bs.below H6.out.2.2.2.1 H8.out.1) H6.out.2.2.2.2).mono ?_
              rintro e w9 ⟨hno, hyes, hb⟩
              rw [← HRR.out] at hyes
              obtain ⟨q3, rfl, hrt⟩ := hyes t2 rfl
              have H9 : Hid (Below w6.heap.size w6 w9 ∧ Rt11 w9 q3 t2.room t2.l ∧ LT w9 q2 t2 F2) := ⟨H8.out.1.trans (hb.mono H8.out.1.size), hrt, HS.out.1.keep H8b.out.1 (fun k hk => hb.block k (HS.out.1.lt H8b.out.1 hk))⟩
              clear hno hyes hb hrt
              unfold dptr
              simp only []
              go_wp2_with fail
              refine (own14 HS.out.1 HS.out.2.1 q2 t2 F2 room w9 H9.out.2.2 H8b.out.2).mono ?_
              rintro e wA ⟨q4, rfl, hrt4, hb⟩
              have HA : Hid (Below w6.heap.size w6 wA ∧ Rt11 wA q3 t2.room t2.l ∧ Rt11 wA q4 room t2.l) := ⟨H9.out.1.trans (hb.mono H9.out.1.size), H9.out.2.1.later hb, hrt4⟩
              clear hb hrt4
              unfold dptr
              go_wp2_with fail
              refine (sameTree_any11 q4 q3 room t2.room t2.l wA HA.out.2.2 HA.out.2.1 (by have := HX.out.2; omega)).mono ?_
              rintro e wB ⟨rfl, hb⟩
              have HB : Hid (Below w6.heap.size w6 wB) := HA.out.1.trans (hb.mono HA.out.1.size)
              clear hb
              go_wp2
              go_roundw
              case rel => exact ⟨2, by omega, by first | rfl | go_num, HB.out⟩
              case measure => simp [intOf]
      | 2, _ =>
        have h2 : ¬ (((2 : Nat) : Int) < 2) := by decide
        go_wp2
        go_ret
        exact ⟨rfl, H6.out.1.trans (H7.out.mono H6.out.1.size)⟩
/-- The byte as a number. -/
theorem says_int14 {LT : Rep11} (S : Specs11 LT) (Q : SpecQ14 LT) (G : SpecS14 LT) (va vb : Value) (a : List O) (b : List UInt8) (at_ z room : Int) (W : World) (hz : z = ((UInt8.ofNat z.toNat).toNat : Int)) (hS : Pa.Std W) (ha : Ol W va a) (hla : a.length ≤ maxLen) (hfa : ∀ o ∈ a, OFit o) (hb : Bs W vb b) (hlb : b.length ≤ maxLen) :
    Calls Tryz.prog 9 #[va, vb, .int .i64 at_, .int .u8 z, .int .i64 room] W fun e w' => e = .returned (.bool true) ∧ Below W.heap.size W w' := by
  rw [hz]
  exact says_any14 S Q G va vb a b at_ (UInt8.ofNat z.toNat) room W hS ha hla hfa hb hlb
end Go.Proofs.YtpidafpaffpnaaaGreatDoor
