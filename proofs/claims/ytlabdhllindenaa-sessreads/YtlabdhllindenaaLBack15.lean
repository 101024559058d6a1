/- SessBack's walk. -/
import Derived.Test.YtlabdhllindenaaActs15
namespace Go.Proofs.Ytlabdhllindenaa
open Go.RowKit

theorem Moved.orl15 {w w' : World} {F F' : Nat → Prop} (h : Moved w w' F F') (G : Nat → Prop) : Moved w w' (fun k => F k ∨ G k) (fun k => F' k ∨ G k) :=
  ⟨h.os, h.tape, h.output, h.size, fun k hk hn => h.block k hk (fun e => hn (Or.inl e)), fun k hk => hk.elim (fun e => (h.sub k e).elim (fun e => Or.inl (Or.inl e)) Or.inr) (fun e => Or.inl (Or.inr e))⟩
theorem Moved.orr15 {w w' : World} {G G' : Nat → Prop} (h : Moved w w' G G') (F : Nat → Prop) : Moved w w' (fun k => F k ∨ G k) (fun k => F k ∨ G' k) :=
  ⟨h.os, h.tape, h.output, h.size, fun k hk hn => h.block k hk (fun e => hn (Or.inr e)), fun k hk => hk.elim (fun e => Or.inl (Or.inl e)) (fun e => (h.sub k e).elim (fun e => Or.inl (Or.inr e)) Or.inr)⟩
/-- Two Sessions, apart from each other. -/
structure Bo15 (LS LT : Rep15) (W w : World) (q r : Nat) (m : Int) (s t : Sq.St) (F G : Nat → Prop) : Prop where
  one : Mine15 LS W w q m s F
  two : Mine15 LT W w r m t G
  off : ∀ k, F k → ¬ G k
section
variable {LS LT : Rep15} {W w w' : World} {q r : Nat} {m m' : Int} {s t s' t' : Sq.St} {F G F' G' : Nat → Prop}
theorem Bo15.later (S : Specs15 LS) (ltk : ∀ {w q s F k}, LT w q s F → F k → k < w.heap.size) (kpk : ∀ {w w' : World} {q s F}, LT w q s F → (∀ k, F k → w'.heap[k]? = w.heap[k]?) → LT w' q s F) (h : Bo15 LS LT W w q r m s t F G) (hb : Below w.heap.size w w') : Bo15 LS LT W w' q r m s t F G :=
  ⟨h.one.later S hb, h.two.step (kpk h.two.ld fun k hk => hb.block k (ltk h.two.ld hk)) h.two.fine (Moved.of_below G hb), h.off⟩
theorem Bo15.mono (h : Bo15 LS LT W w q r m s t F G) (hm : m ≤ m') : Bo15 LS LT W w q r m' s t F G := ⟨h.one.mono hm, h.two.mono hm, h.off⟩
/-- The first has moved. -/
theorem Bo15.first (ltk : ∀ {w q s F k}, LT w q s F → F k → k < w.heap.size) (kpk : ∀ {w w' : World} {q s F}, LT w q s F → (∀ k, F k → w'.heap[k]? = w.heap[k]?) → LT w' q s F) (h : Bo15 LS LT W w q r m s t F G) (h1 : Mine15 LS W w' q m' s' F') (hv : Moved w w' F F') (hm : m ≤ m') : Bo15 LS LT W w' q r m' s' t F' G :=
  ⟨h1, ⟨kpk h.two.ld fun k hk => hv.block k (ltk h.two.ld hk) (fun e => h.off k e hk), h.two.fine.mono hm, h.two.hi, h1.below⟩, fun k hk e => (hv.sub k hk).elim (fun e2 => h.off k e2 e) (fun e2 => by have := ltk h.two.ld e; omega)⟩
/-- The second has moved. -/
theorem Bo15.second (S : Specs15 LS) (h : Bo15 LS LT W w q r m s t F G) (h2 : Mine15 LT W w' r m' t' G') (hv : Moved w w' G G') (hm : m ≤ m') : Bo15 LS LT W w' q r m' s t' F G' :=
  ⟨⟨S.keep h.one.ld fun k hk => hv.block k (S.lt h.one.ld hk) (h.off k hk), h.one.fine.mono hm, h.one.hi, h2.below⟩, h2, fun k hk e => (hv.sub k e).elim (h.off k hk) (fun e2 => by have := S.lt h.one.ld hk; omega)⟩
end

set_option maxRecDepth 20000 in
set_option maxHeartbeats 8000000 in
theorem back_any15 {LS : Rep15} (S : Specs15 LS) (v u : Value) (xs ys : List Sq.Ac) (W : World) (hv : Acl15 W v xs) (hu : Acl15 W u ys) (hl : xs.length ≤ maxLen) (hl2 : ys.length ≤ maxLen) :
    Calls Try.prog 8 #[v, u] W fun e w' => e = .returned (.bool true) ∧ Below W.heap.size W w' := by
  have HS : Hid (Specs15 LS) := S
  obtain ⟨av, N, c, rfl, hN, hj⟩ := hv
  have HV : Hid (Acl15 W (.slice av N c) xs ∧ N = xs.length) := ⟨⟨av, N, c, rfl, hN, hj⟩, hN⟩
  obtain ⟨au, M, cu, rfl, hM, hk⟩ := hu
  have HU : Hid (Acl15 W (.slice au M cu) ys ∧ M = ys.length) := ⟨⟨au, M, cu, rfl, hM, hk⟩, hM⟩
  have hN1 : N ≤ 9223372036854775807 := by unfold maxLen at hl; omega
  have hM1 : M ≤ 9223372036854775807 := by unfold maxLen at hl2; omega
  clear S hl hl2 hN hM hj hk
  go_enter Try.func8, Try.ntmps8
  go_wp2_with fail
  refine (awake_any15 HS.out W).mono ?_
  rintro e w0 ⟨rfl, hb0⟩
  have H0 : Hid (Below W.heap.size W w0) := hb0
  clear hb0
  by_cases h40 : 40 < N
  · have h40' : (40 : Int) < (N : Int) := by omega
    go_wp2
    go_ret
    exact ⟨rfl, H0.out⟩
  have h40' : ¬ (40 : Int) < (N : Int) := by omega
  by_cases h41 : 40 < M
  · have h41' : (40 : Int) < (M : Int) := by omega
    go_wp2
    go_ret
    exact ⟨rfl, H0.out⟩
  have h41' : ¬ (40 : Int) < (M : Int) := by omega
  go_wp2_with fail
  refine (mine15_new HS.out H0.out 5 (by decide)).mono ?_
  rintro e w1 ⟨q, F1, rfl, hM⟩
  have M1 : Hid (Mine15 LS W w1 q 1 (Sq.new 5) F1) := hM
  clear hM H0
  go_wp2
  go_loopw [7] (fun i wx => ∃ (k : Nat) (s : Sq.St) (F : Nat → Prop), k ≤ N ∧ i = .int .i64 (k : Int) ∧ Mine15 LS W wx q ((k : Int) + 1) s F) (fun i _ => N - (intOf i).toNat)
  case atStart => exact ⟨0, _, F1, Nat.zero_le _, rfl, M1.out⟩
  case round =>
    obtain ⟨k, s, F, hk, rfl, hM⟩ := hrel
    have H3 : Hid (Mine15 LS W wr q ((k : Int) + 1) s F) := hM
    clear hM M1
    by_cases hlt : k < N
    · have hlt' : (k : Int) < (N : Int) := by omega
      have hk0 : (0 : Int) ≤ (k : Int) := by omega
      have hwk : IntKind.wrap .i64 ((k : Int) + 1) = (k : Int) + 1 := by rw [IntKind.wrap_i64]; omega
      obtain ⟨x, hx⟩ : ∃ x, xs[k]? = some x := ⟨xs[k]'(by rw [← HV.out.2]; exact hlt), List.getElem?_eq_getElem _⟩
      obtain ⟨g, o, rfl, c0, c1, c2⟩ := (HV.out.1.below H3.out.below).at hx
      clear hx
      have hkm : ((k : Int) + 1) ≤ 1000000 := by omega
      by_cases ho0 : x.op = 0
      · have hob : (x.op == 0) = true := by simp [ho0]
        clear ho0
        obtain ⟨za, zb, s6, hz⟩ : ∃ za zb s6, Sq.op s x.span = (za, zb, s6) := ⟨_, _, _, rfl⟩
        have HZ : Hid (Sq.op s x.span = (za, zb, s6)) := hz
        clear hz
        go_wp2_with fail
        refine (H3.out.opn HS.out hkm x.span za zb s6 HZ.out).mono ?_
        rintro e w6 ⟨F6, rfl, hM6, hmv⟩
        have H6 : Hid (Mine15 LS W w6 q ((k : Int) + 1 + 1) s6 F6) := hM6
        clear hM6 hmv H3 c0 c1 c2
        go_wp2
        go_roundw
        case rel => exact ⟨k + 1, s6, F6, by omega, by go_num, by simpa using H6.out⟩
        case measure => simp [intOf]; omega
      have hob : (x.op == 0) = false := by simp [ho0]
      by_cases ho3 : x.op = 3
      · have hob3 : (x.op == 3) = true := by simp [ho3]
        clear ho0 ho3
        go_wp2_with fail
        refine (H3.out.tick HS.out hkm (Sq.over s) (Sq.tick s) rfl rfl).mono ?_
        rintro e w6 ⟨F6, vt, rfl, hit, hot, hM6, hmv⟩
        have H6 : Hid (Mine15 LS W w6 q ((k : Int) + 1 + 1) (Sq.tick s) F6) := hM6
        obtain ⟨at3, nt3, ct3, rfl, hnt3, hct3⟩ := hit
        clear hM6 hmv H3 hot hnt3 hct3 c0 c1 c2
        go_wp2
        go_roundw
        case rel => exact ⟨k + 1, _, F6, by omega, by go_num, by simpa using H6.out⟩
        case measure => simp [intOf]; omega
      · have hob3 : (x.op == 3) = false := by simp [ho3]
        clear ho0 ho3
        obtain ⟨za, s6, hz⟩ : ∃ za s6, Sq.touch s x.id = (za, s6) := ⟨_, _, rfl⟩
        have HZ : Hid (Sq.touch s x.id = (za, s6)) := hz
        clear hz
        go_wp2_with fail
        refine (H3.out.touch HS.out hkm x.id za s6 HZ.out).mono ?_
        rintro e w6 ⟨F6, rfl, hM6, hmv⟩
        have H6 : Hid (Mine15 LS W w6 q ((k : Int) + 1 + 1) s6 F6) := hM6.mono (by omega)
        clear hM6 hmv H3 c0 c1 c2
        go_wp2
        go_roundw
        case rel => exact ⟨k + 1, s6, F6, by omega, by go_num, by simpa using H6.out⟩
        case measure => simp [intOf]; omega
    · have hlt' : ¬ (k : Int) < (N : Int) := by omega
      have HGB : Hid (Sq.get (Sq.bytes s) = some s ∧ (Sq.bytes s).length ≤ 2000) := ⟨Sq.get_bytes H3.out.fine (by omega), by have := Sq.bytes_len H3.out.fine; omega⟩
      go_wp2_with fail
      refine (H3.out.put HS.out).mono ?_
      rintro e w4 ⟨vp, rfl, hvp, hM4, hb4⟩
      have H4 : Hid (Mine15 LS W w4 q ((k : Int) + 1) s F ∧ Bs w4 vp (Sq.bytes s)) := ⟨hM4, Bs.own hvp⟩
      obtain ⟨ap, cp, hve, _, _⟩ := row_form hvp
      obtain ⟨LB, hLB⟩ : ∃ z, z = (Sq.bytes s).length := ⟨_, rfl⟩
      rw [← hLB] at hve
      subst hve
      clear hM4 hvp hb4 hLB H3
      go_wp2_with fail
      refine (mine15_get HS.out H4.out.1.below _ (Sq.bytes s) H4.out.2 HGB.out.2 s HGB.out.1).mono ?_
      rintro e w5 ⟨r, G, rfl, hM5, hG5, hb5⟩
      have H5 : Hid (Bo15 LS LS W w5 q r ((k : Int) + 1) s s F G) := by
        have h1 := H4.out.1.later HS.out hb5
        exact ⟨h1, ⟨hM5.ld, h1.fine, hM5.hi, hM5.below⟩, fun j hj e => by have := HS.out.lt H4.out.1.ld hj; have := hG5 j e; omega⟩
      clear hM5 hG5 hb5 H4
      go_wp2
      have HKN : Hid (k ≤ 40) := (show k ≤ 40 by omega)
      go_loopw [10] (fun i wx => ∃ (j : Nat) (t : Sq.St) (F G : Nat → Prop), j ≤ M ∧ i = .int .i64 (j : Int) ∧ Bo15 LS LS W wx q r ((k : Int) + 1 + (j : Int)) t t F G) (fun i _ => M - (intOf i).toNat)
      case atStart => exact ⟨0, s, F, G, Nat.zero_le _, rfl, by simpa using H5.out⟩
      case round =>
        obtain ⟨j, t, F7, G7, hj, rfl, hB⟩ := hrel
        have H7 : Hid (Bo15 LS LS W wr q r ((k : Int) + 1 + (j : Int)) t t F7 G7) := hB
        clear hB H5
        have hjm : ((k : Int) + 1 + (j : Int)) ≤ 1000000 := by have := HKN.out; omega
        by_cases hlj : j < M
        · have hlj' : (j : Int) < (M : Int) := by omega
          have hj0 : (0 : Int) ≤ (j : Int) := by omega
          have hwj : IntKind.wrap .i64 ((j : Int) + 1) = (j : Int) + 1 := by rw [IntKind.wrap_i64]; omega
          obtain ⟨x, hx⟩ : ∃ x, ys[j]? = some x := ⟨ys[j]'(by rw [← HU.out.2]; exact hlj), List.getElem?_eq_getElem _⟩
          have HX : Hid (ys[j]? = some x) := hx
          obtain ⟨g, o, rfl, c0, c1, c2⟩ := (HU.out.1.below H7.out.one.below).at hx
          clear hx
          by_cases ho0 : x.op = 0
          · have hob : (x.op == 0) = true := by simp [ho0]
            clear ho0
            obtain ⟨za, zb, s6, hz⟩ : ∃ za zb s6, Sq.op t x.span = (za, zb, s6) := ⟨_, _, _, rfl⟩
            have HZ : Hid (Sq.op t x.span = (za, zb, s6)) := hz
            clear hz
            go_wp2_with fail
            refine (H7.out.one.opn HS.out hjm x.span za zb s6 HZ.out).mono ?_
            rintro e w8 ⟨F8, rfl, hM8, hmv⟩
            have H8 : Hid (Bo15 LS LS W w8 q r ((k : Int) + 1 + (j : Int) + 1) s6 t F8 G7 ∧ Mine15 LS W w8 r ((k : Int) + 1 + (j : Int)) t G7) := by
              have h := H7.out.first (LT := LS) (m' := (k : Int) + 1 + (j : Int) + 1) HS.out.lt HS.out.keep hM8 hmv (show (k : Int) + 1 + (j : Int) ≤ (k : Int) + 1 + (j : Int) + 1 by omega)
              exact ⟨h, h.two.ld, H7.out.two.fine, h.two.hi, h.two.below⟩
            clear hM8 hmv H7 c0 c1 c2
            have d2 : w8.cell? ⟨g, o + j * 3 + 2, none⟩ = some (.int .i64 x.span) := (HU.out.1.on H8.out.1.one.below HX.out).2.2
            go_wp2_with fail
            refine (H8.out.2.opn HS.out hjm x.span za zb s6 HZ.out).mono ?_
            rintro e w9 ⟨G9, rfl, hM9, hmv⟩
            have H9 : Hid (Bo15 LS LS W w9 q r ((k : Int) + 1 + (j : Int) + 1) s6 s6 F8 G9) := H8.out.1.second HS.out hM9 hmv (Int.le_refl _)
            clear hM9 hmv H8 d2
            have haa : (za != za) = false := by simp
            have hbb : (zb != zb) = false := by simp
            go_wp2
            go_roundw
            case rel => exact ⟨j + 1, s6, F8, G9, by omega, by go_num, by rw [show (k : Int) + 1 + ((j + 1 : Nat) : Int) = (k : Int) + 1 + (j : Int) + 1 by omega]; exact H9.out⟩
            case measure => simp [intOf]; omega
          · have hob : (x.op == 0) = false := by simp [ho0]
            clear ho0
            obtain ⟨s6, hs6⟩ : ∃ s6, s6 = Sq.tick t := ⟨_, rfl⟩
            obtain ⟨ov, hov⟩ : ∃ ov, ov = Sq.over t := ⟨_, rfl⟩
            have HZ : Hid (s6 = Sq.tick t ∧ ov = Sq.over t ∧ ov.length ≤ 1000) := ⟨hs6, hov, by
              rw [hov]
              unfold Sq.over
              rw [List.length_map]
              have h1 := List.length_filter_le (Sq.ends (t.now + 1)) t.l
              have h2 := H7.out.one.fine.len64
              omega⟩
            clear hs6 hov
            go_wp2_with fail
            refine (H7.out.one.tick HS.out hjm ov s6 HZ.out.2.1.symm HZ.out.1.symm).mono ?_
            rintro e w8 ⟨F8, va, rfl, hia, hoa, hM8, hmv⟩
            have H8 : Hid (Bo15 LS LS W w8 q r ((k : Int) + 1 + (j : Int) + 1) s6 t F8 G7 ∧ Mine15 LS W w8 r ((k : Int) + 1 + (j : Int)) t G7 ∧ Bi w8 va ov ∧ (∀ i, va.ownBlock = some i → ¬ G7 i)) := by
              have h := H7.out.first (LT := LS) (m' := (k : Int) + 1 + (j : Int) + 1) HS.out.lt HS.out.keep hM8 hmv (show (k : Int) + 1 + (j : Int) ≤ (k : Int) + 1 + (j : Int) + 1 by omega)
              exact ⟨h, ⟨h.two.ld, H7.out.two.fine, h.two.hi, h.two.below⟩, hia, fun i hi e => by have := (hoa i hi).1; have := HS.out.lt H7.out.two.ld e; omega⟩
            obtain ⟨a3, n3, c3, rfl, hn3, hc3⟩ := hia
            clear hM8 hmv H7 hoa hn3 hc3 c0 c1 c2
            go_wp2_with fail
            refine (H8.out.2.1.tick HS.out hjm ov s6 HZ.out.2.1.symm HZ.out.1.symm).mono ?_
            rintro e w9 ⟨G9, vb, rfl, hib, hob9, hM9, hmv⟩
            have H9 : Hid (Bo15 LS LS W w9 q r ((k : Int) + 1 + (j : Int) + 1) s6 s6 F8 G9 ∧ Bi w9 (.slice a3 n3 c3) ov ∧ Bi w9 vb ov) := ⟨H8.out.1.second HS.out hM9 hmv (Int.le_refl _), H8.out.2.2.1.moved H8.out.2.2.2 hmv, hib⟩
            obtain ⟨a4, n4, c4, rfl, hn4, hc4⟩ := hib
            clear hM9 hmv H8 hob9 hn4 hc4
            go_wp2_with fail
            refine (ids_any15 _ _ ov ov w9 H9.out.2.1 H9.out.2.2 HZ.out.2.2).mono ?_
            rintro e w10 ⟨rfl, hb10⟩
            have hdt : decide (ov = ov) = true := decide_eq_true rfl
            rw [hdt]
            have H10 : Hid (Bo15 LS LS W w10 q r ((k : Int) + 1 + (j : Int) + 1) s6 s6 F8 G9) := H9.out.1.later HS.out HS.out.lt HS.out.keep hb10
            clear hb10 H9 hdt
            go_wp2
            go_roundw
            case rel => exact ⟨j + 1, s6, F8, G9, by omega, by go_num, by rw [show (k : Int) + 1 + ((j + 1 : Nat) : Int) = (k : Int) + 1 + (j : Int) + 1 by omega]; exact H10.out⟩
            case measure => simp [intOf]; omega
        · have hlj' : ¬ (j : Int) < (M : Int) := by omega
          have HL64 : Hid (t.l.length ≤ 64 ∧ (Sq.all t).length ≤ 1000) := by
            have h := H7.out.one.fine.len64
            exact ⟨h, by unfold Sq.all; simp; omega⟩
          go_upto_region 29 with fail
          refine wp_region_held_drew (S := fun w' => Below wr.heap.size wr w') (by kernel_rfl) (Below.refl _ _).drew (fun _ => ?_)
          refine wpAnyH_more (S' := fun w' => Below wr.drew.heap.size wr.drew w') (fun w' h => below_drew h) _ _ _ _ ?_
          have J0 : Hid (Bo15 LS LS W wr.drew q r ((k : Int) + 1 + (j : Int)) t t F7 G7) := H7.out.later HS.out HS.out.lt HS.out.keep (Below.refl _ _).drew
          clear H7
          generalize wr.drew = s0 at *
          obtain ⟨Z, hZ⟩ : ∃ Z : ByteArray, Z = ⟨(Sq.bytes t).toArray⟩ := ⟨_, rfl⟩
          have HZ : Hid (Z = ⟨(Sq.bytes t).toArray⟩) := hZ
          have hzz : (Z.toList == Z.toList) = true := by simp
          clear hZ
          refine' take_at (i := 0) (d := 117) (v := _) rfl rfl (by kernel_rfl) (by kernel_rfl) (by kernel_rfl) (fun _ _ _ h => h) (Or.inl ⟨by rfl, ?h0⟩) (Below.refl _ _) ?_
          case h0 =>
            intro w hSw
            go_simp
            with_reducible rfl
          simp only [List.setIfInBounds_toArray, List.set_cons_zero, List.set_cons_succ]
          refine' take_at (i := 2) (d := 119) (v := _) rfl rfl (by kernel_rfl) (by kernel_rfl) (by kernel_rfl) (fun _ _ _ h => h) (Or.inl ⟨by rfl, ?h2⟩) (Below.refl _ _) ?_
          case h2 =>
            intro w hSw
            go_simp
            with_reducible rfl
          simp only [List.setIfInBounds_toArray, List.set_cons_zero, List.set_cons_succ]
          refine wpAnyH_ready (rs := [1]) (by kernel_rfl) (by simp) ?_
          refine AllReadyH.cons (o := _) rfl (fun KQ hKQ => ?_) AllReadyH.nil
          go_simp
          refine (J0.out.one.all HS.out).mono ?_
          rintro e s1 ⟨va, rfl, hia, hoa, hM8, hb⟩
          have J1 : Hid (Bo15 LS LS W s1 q r ((k : Int) + 1 + (j : Int)) t t F7 G7 ∧ Bi s1 va (Sq.all t)) := ⟨J0.out.later HS.out HS.out.lt HS.out.keep hb, hia⟩
          obtain ⟨a3, n3, c3, rfl, hn3, hc3⟩ := hia
          clear hM8 hoa hn3 hc3 J0
          simp only []
          refine hKQ.out _ _ hb (fun _ => ?_)
          refine wpAnyH_more (S' := fun w' => Below s1.heap.size s1 w') (fun w' h => hb.trans (h.mono hb.size)) _ _ _ _ ?_
          clear hKQ KQ hb
          refine wpAnyH_ready (rs := [3]) (by kernel_rfl) (by simp) ?_
          refine AllReadyH.cons (o := _) rfl (fun KQ hKQ => ?_) AllReadyH.nil
          go_simp
          refine (J1.out.1.two.all HS.out).mono ?_
          rintro e s2 ⟨vb, rfl, hib, hob, hM9, hb⟩
          have J2 : Hid (Bo15 LS LS W s2 q r ((k : Int) + 1 + (j : Int)) t t F7 G7 ∧ Bi s2 (.slice a3 n3 c3) (Sq.all t) ∧ Bi s2 vb (Sq.all t)) := ⟨J1.out.1.later HS.out HS.out.lt HS.out.keep hb, J1.out.2.below hb, hib⟩
          obtain ⟨a4, n4, c4, rfl, hn4, hc4⟩ := hib
          clear hM9 hob hn4 hc4 J1
          simp only []
          refine hKQ.out _ _ hb (fun _ => ?_)
          refine wpAnyH_more (S' := fun w' => Below s2.heap.size s2 w') (fun w' h => hb.trans (h.mono hb.size)) _ _ _ _ ?_
          clear hKQ KQ hb
          refine wpAnyH_ready (rs := [4]) (by kernel_rfl) (by simp) ?_
          refine AllReadyH.cons (o := _) rfl (fun KQ hKQ => ?_) AllReadyH.nil
          go_simp
          refine (ids_any15 _ _ (Sq.all t) (Sq.all t) s2 J2.out.2.1 J2.out.2.2 HL64.out.2).mono ?_
          rintro e s3 ⟨rfl, hb⟩
          have hdt : decide (Sq.all t = Sq.all t) = true := decide_eq_true rfl
          rw [hdt]
          have J3 : Hid (Bo15 LS LS W s3 q r ((k : Int) + 1 + (j : Int)) t t F7 G7) := J2.out.1.later HS.out HS.out.lt HS.out.keep hb
          clear J2 hdt
          simp only []
          refine hKQ.out _ _ hb (fun _ => ?_)
          refine wpAnyH_more (S' := fun w' => Below s3.heap.size s3 w') (fun w' h => hb.trans (h.mono hb.size)) _ _ _ _ ?_
          clear hKQ KQ hb
          refine' take_at (i := 5) (d := 122) (v := _) rfl rfl (by kernel_rfl) (by kernel_rfl) (by kernel_rfl) (fun _ _ _ h => h) (Or.inl ⟨by rfl, ?h5⟩) (Below.refl _ _) ?_
          case h5 =>
            intro w hSw
            go_simp
            with_reducible rfl
          simp only [List.setIfInBounds_toArray, List.set_cons_zero, List.set_cons_succ]
          refine' take_at (i := 6) (d := 123) (v := _) rfl rfl (by kernel_rfl) (by kernel_rfl) (by kernel_rfl) (fun _ _ _ h => h) (Or.inl ⟨by rfl, ?h6⟩) (Below.refl _ _) ?_
          case h6 =>
            intro w hSw
            go_simp
            with_reducible rfl
          simp only [List.setIfInBounds_toArray, List.set_cons_zero, List.set_cons_succ]
          refine' take_at (i := 9) (d := 126) (v := _) rfl rfl (by kernel_rfl) (by kernel_rfl) (by kernel_rfl) (fun _ _ _ h => h) (Or.inl ⟨by rfl, ?h9⟩) (Below.refl _ _) ?_
          case h9 =>
            intro w hSw
            go_simp
            with_reducible rfl
          simp only [List.setIfInBounds_toArray, List.set_cons_zero, List.set_cons_succ]
          refine wpAnyH_ready (rs := [7]) (by kernel_rfl) (by simp) ?_
          refine AllReadyH.cons (o := _) rfl (fun KQ hKQ => ?_) AllReadyH.nil
          go_simp
          refine (J3.out.one.put HS.out).mono ?_
          rintro e s4 ⟨vp, rfl, hvp, hM, hb⟩
          have J4 : Hid (Bo15 LS LS W s4 q r ((k : Int) + 1 + (j : Int)) t t F7 G7 ∧ Bs s4 vp (Sq.bytes t)) := ⟨J3.out.later HS.out HS.out.lt HS.out.keep hb, Bs.own hvp⟩
          obtain ⟨ap, cp9, hve, _, _⟩ := row_form hvp
          obtain ⟨LB9, hLB⟩ : ∃ z, z = (Sq.bytes t).length := ⟨_, rfl⟩
          rw [← hLB] at hve
          subst hve
          clear hvp hM hLB J3
          simp only []
          refine hKQ.out _ _ hb (fun _ => ?_)
          refine wpAnyH_more (S' := fun w' => Below s4.heap.size s4 w') (fun w' h => hb.trans (h.mono hb.size)) _ _ _ _ ?_
          clear hKQ KQ hb
          refine' take_at (i := 8) (d := 125) (v := _) rfl rfl (by kernel_rfl) (by kernel_rfl) (by kernel_rfl) (fun _ _ _ h => h) (Or.inl ⟨by rfl, ?h8⟩) (Below.refl _ _) ?_
          case h8 =>
            intro w hSw
            have hcv := (J4.out.2.below hSw).conv
            rw [← HZ.out] at hcv
            go_simp
            with_reducible rfl
          simp only [List.setIfInBounds_toArray, List.set_cons_zero, List.set_cons_succ]
          refine wpAnyH_ready (rs := [10]) (by kernel_rfl) (by simp) ?_
          refine AllReadyH.cons (o := _) rfl (fun KQ hKQ => ?_) AllReadyH.nil
          go_simp
          refine (J4.out.1.two.put HS.out).mono ?_
          rintro e s5 ⟨vp, rfl, hvp, hM, hb⟩
          have J5 : Hid (Bo15 LS LS W s5 q r ((k : Int) + 1 + (j : Int)) t t F7 G7 ∧ Bs s5 vp (Sq.bytes t)) := ⟨J4.out.1.later HS.out HS.out.lt HS.out.keep hb, Bs.own hvp⟩
          obtain ⟨ap2, cp2, hve, _, _⟩ := row_form hvp
          obtain ⟨LB2, hLB⟩ : ∃ z, z = (Sq.bytes t).length := ⟨_, rfl⟩
          rw [← hLB] at hve
          subst hve
          clear hvp hM hLB J4
          simp only []
          refine hKQ.out _ _ hb (fun _ => ?_)
          refine wpAnyH_more (S' := fun w' => Below s5.heap.size s5 w') (fun w' h => hb.trans (h.mono hb.size)) _ _ _ _ ?_
          clear hKQ KQ hb
          refine' take_at (i := 11) (d := 128) (v := _) rfl rfl (by kernel_rfl) (by kernel_rfl) (by kernel_rfl) (fun _ _ _ h => h) (Or.inl ⟨by rfl, ?h11⟩) (Below.refl _ _) ?_
          case h11 =>
            intro w hSw
            have hcv := (J5.out.2.below hSw).conv
            rw [← HZ.out] at hcv
            go_simp
            with_reducible rfl
          simp only [List.setIfInBounds_toArray, List.set_cons_zero, List.set_cons_succ]
          refine' take_at (i := 12) (d := 129) (v := _) rfl rfl (by kernel_rfl) (by kernel_rfl) (by kernel_rfl) (fun _ _ _ h => h) (Or.inl ⟨by rfl, ?h12⟩) (Below.refl _ _) ?_
          case h12 =>
            intro w hSw
            go_simp
            with_reducible rfl
          simp only [List.setIfInBounds_toArray, List.set_cons_zero, List.set_cons_succ]
          refine' take_at (i := 13) (d := 130) (v := _) rfl rfl (by kernel_rfl) (by kernel_rfl) (by kernel_rfl) (fun _ _ _ h => h) (Or.inl ⟨by rfl, ?h13⟩) (Below.refl _ _) ?_
          case h13 =>
            intro w hSw
            go_simp
            with_reducible rfl
          simp only [List.setIfInBounds_toArray, List.set_cons_zero, List.set_cons_succ]
          refine' take_at (i := 14) (d := 4) (v := _) rfl rfl (by kernel_rfl) (by kernel_rfl) (by kernel_rfl) (fun _ _ _ h => h) (Or.inl ⟨by rfl, ?h14⟩) (Below.refl _ _) ?_
          case h14 =>
            intro w hSw
            go_simp
            with_reducible rfl
          simp only [List.setIfInBounds_toArray, List.set_cons_zero, List.set_cons_succ]
          refine wpAnyH_done (by kernel_rfl) ?_ _
          go_wp2
          go_ret
          exact ⟨rfl, J5.out.1.one.below⟩
end Go.Proofs.Ytlabdhllindenaa
