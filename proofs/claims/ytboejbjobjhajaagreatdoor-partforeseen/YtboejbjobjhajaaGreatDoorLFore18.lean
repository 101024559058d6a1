import Derived.Test.YtboejbjobjhajaaGreatDoorFo18
namespace Go.Proofs.YtboejbjobjhajaaGreatDoor
open Go.RowKit
theorem Rn12.cells18 {B : Nat} {F : Nat → Prop} {w : World} {a : Option Addr} {k c : Nat} {x : X} {xs : List X} (h : Rn12 B F w (.slice a k c) xs) {j : Nat} (hx : xs[j]? = some x) : ∃ g b, a = some ⟨g, b, none⟩ ∧ w.cell? ⟨g, b + j * 11, none⟩ = some (.int .i64 x.err) ∧ w.cell? ⟨g, b + j * 11 + 1, none⟩ = some (.string x.path) := by
  obtain ⟨av, k', c', e, _, _, _, hs⟩ := h
  obtain ⟨g, b, nv, h1, _, _, _, h5⟩ := hs j x hx
  obtain ⟨e1, _, _⟩ := Value.slice.inj e
  exact ⟨g, b, by rw [e1, h1], by have := h5 0 _ rfl; simpa using this, by have := h5 1 _ rfl; rw [Nat.add_assoc]; exact this⟩
set_option maxRecDepth 20000 in
set_option maxHeartbeats 16000000 in
theorem foreseen_any18 {LT : Rep11} {LP : Rep18} (S : Specs18 LT LP) (T : Specs11 LT) (R : SpecR11 LT) (va vb v : Value) (oa bs : List O) (xs : List Ac18) (co : Bool) (W : World) (hS : Pa.Std W) (ha : Ol W va oa) (hla : oa.length ≤ maxLen) (hfa : ∀ o ∈ oa, OFit o) (hb : Ol W vb bs) (hlb : bs.length ≤ maxLen) (hfb : ∀ o ∈ bs, OFit o) (hv : Acl18 W v xs) (hl : xs.length ≤ maxLen) (hok : ∀ x ∈ xs, AcOk18 x) :
    Calls Tryz.prog 5 #[va, vb, v, .bool co] W fun e w' => e = .returned (.bool true) ∧ Below W.heap.size W w' := by
  have HS : Hid (Specs18 LT LP ∧ Pa.Std W ∧ Specs11 LT ∧ SpecR11 LT) := ⟨S, hS, T, R⟩
  have HX0 : Hid (∀ x ∈ xs, AcOk18 x) := hok
  have HO : Hid (Ol W va oa ∧ oa.length ≤ maxLen ∧ (∀ o ∈ oa, OFit o) ∧ Ol W vb bs ∧ bs.length ≤ maxLen ∧ ∀ o ∈ bs, OFit o) := ⟨ha, hla, hfa, hb, hlb, hfb⟩
  obtain ⟨aa, na, ac, rfl, hna, _⟩ := ha
  obtain ⟨ba, nb, bc, rfl, hnb, _⟩ := hb
  obtain ⟨av, N, c, rfl, hN, hj⟩ := hv
  have HV : Hid (Acl18 W (.slice av N c) xs ∧ N = xs.length) := ⟨⟨av, N, c, rfl, hN, hj⟩, hN⟩
  have HN : Hid (na = oa.length ∧ nb = bs.length) := ⟨hna, hnb⟩
  have hN63 : N ≤ 9223372036854775807 := by unfold maxLen at hl; omega
  clear S T R hS hok hl hN hj hla hfa hlb hfb hna hnb
  go_enter Tryz.func5, Tryz.ntmps5
  go_wp2_with fail
  refine (awake_any18 HS.out.1 W HS.out.2.1).mono ?_
  rintro e w0 ⟨rfl, hb0⟩
  have H0 : Hid (Below W.heap.size W w0) := hb0
  clear hb0
  go_wp2_with fail
  refine (long_any18 (.slice aa na ac) oa w0 (HO.out.1.below H0.out) HO.out.2.1).mono ?_
  rintro e w1 ⟨rfl, hb1⟩
  have H1 : Hid (Below W.heap.size W w1) := H0.out.trans (hb1.mono H0.out.size)
  clear hb1 H0
  cases hga : greatB oa with
  | true =>
    clear hga
    go_wp2
    go_ret
    exact ⟨rfl, H1.out⟩
  | false =>
  have HGA : Hid (na ≤ 20) := (show na ≤ 20 by
    have h1 := hga
    unfold greatB at h1
    rw [Bool.or_eq_false_iff, decide_eq_false_iff_not] at h1
    have := HN.out.1
    omega)
  clear hga
  go_wp2_with fail
  refine (long_any18 (.slice ba nb bc) bs w1 (HO.out.2.2.2.1.below H1.out) HO.out.2.2.2.2.1).mono ?_
  rintro e w2 ⟨rfl, hb1⟩
  have H2 : Hid (Below W.heap.size W w2) := H1.out.trans (hb1.mono H1.out.size)
  clear hb1 H1
  cases hgb : greatB bs with
  | true =>
    clear hgb
    go_wp2
    go_ret
    exact ⟨rfl, H2.out⟩
  | false =>
  have HGB : Hid (nb ≤ 20) := (show nb ≤ 20 by
    have h1 := hgb
    unfold greatB at h1
    rw [Bool.or_eq_false_iff, decide_eq_false_iff_not] at h1
    have := HN.out.2
    omega)
  clear hgb
  by_cases a1 : (25 : Int) < (N : Int)
  · go_wp2
    go_ret
    exact ⟨rfl, H2.out⟩
  have HA : Hid (N ≤ 25) := (show N ≤ 25 by omega)
  have hna20 : na ≤ 20 := HGA.out
  go_wp2_with fail
  refine (mine18_new HS.out.1 30 (by decide) H2.out).mono ?_
  rintro e w3 ⟨q, F1, rfl, hM, hb⟩
  have M1 : Hid (Mine18 LP W w3 q 0 (Pt.new 30) F1) := hM
  clear hM hb H2 a1
  unfold dptr
  go_wp2
  go_loopw [11] (fun i wx => ∃ (k : Nat) (s : Pt.St) (F : Nat → Prop), k ≤ na ∧ i = .int .i64 (k : Int) ∧ Mine18 LP W wx q k s F ∧ s.ps = []) (fun i _ => na - (intOf i).toNat)
  case atStart => exact ⟨0, _, F1, Nat.zero_le _, rfl, M1.out, rfl⟩
  case round =>
    obtain ⟨k, s, F, hk, rfl, hM, hps⟩ := hrel
    have H3 : Hid (Mine18 LP W wr q k s F ∧ s.ps = []) := ⟨hM, hps⟩
    clear hM hps M1
    by_cases hlt : k < na
    · have hlt' : (k : Int) < (na : Int) := by omega
      have hk0 : (0 : Int) ≤ (k : Int) := by omega
      have hwk : IntKind.wrap .i64 ((k : Int) + 1) = (k : Int) + 1 := by rw [IntKind.wrap_i64]; omega
      obtain ⟨o, ho⟩ : ∃ o, oa[k]? = some o := ⟨oa[k]'(by rw [← HN.out.1]; exact hlt), List.getElem?_eq_getElem _⟩
      obtain ⟨g, b, c', hv', _⟩ := HO.out.1.at (by have h := (List.getElem?_eq_some_iff.1 ho).1; omega)
      obtain ⟨rfl, hq, rfl⟩ := Value.slice.inj hv'
      have HK : Hid (OFit o ∧ Ol W (.slice (some ⟨g, b + k * 5, none⟩) 1 (ac - k)) [o]) := ⟨HO.out.2.2.1 o (List.mem_of_getElem? ho), HO.out.1.one18 ho⟩
      clear ho hv' hq
      obtain ⟨r, s2, hr⟩ : ∃ r s2, Pt.local_ s 1 ((k : Int) + 1) [o] = (r, s2) := ⟨_, _, rfl⟩
      have HR : Hid (Pt.local_ s 1 ((k : Int) + 1) [o] = (r, s2) ∧ s2.ps = []) := ⟨hr, by have h := @Pt.loc_ps s 1 ((k : Int) + 1) [o]; rw [hr] at h; rw [← H3.out.2]; exact h⟩
      clear hr
      go_wp2_with fail
      refine (H3.out.1.loc HS.out.1 HS.out.2.1 (by omega) 1 ((k : Int) + 1) _ [o] (arg18 HK.out.2 H3.out.1.below H3.out.1.hi) (fun x hx => by rw [List.mem_singleton.1 hx]; exact HK.out.1) (show 1 ≤ maxLen by decide) (by unfold I64; decide) r s2 HR.out.1).mono ?_
      rintro e w8 ⟨F8, u, rfl, hrn, hM, hmv⟩
      have H8 : Hid (Mine18 LP W w8 q (k + 1) s2 F8 ∧ s2.ps = []) := ⟨hM, HR.out.2⟩
      clear hrn hM hmv H3
      unfold rpv
      go_wp2
      go_roundw
      case rel => exact ⟨k + 1, s2, F8, by omega, by go_num, H8.out⟩
      case measure => simp [intOf]; omega
    · have hlt' : ¬ (k : Int) < (na : Int) := by omega
      obtain ⟨er, at_, s2, hr⟩ : ∃ a b s2, Pt.prepare s 7 1 bs = ((a, b), s2) := ⟨_, _, _, rfl⟩
      have HP : Hid (Pt.prepare s 7 1 bs = ((er, at_), s2)) := hr
      have HB0 : Hid (k ≤ 20) := (show k ≤ 20 by omega)
      clear hr
      go_wp2_with fail
      refine (H3.out.1.prep HS.out.1 HS.out.2.1 (by have := HB0.out; omega) 7 1 (.slice ba nb bc) bs (arg18 HO.out.2.2.2.1 H3.out.1.below H3.out.1.hi) HO.out.2.2.2.2.2 HO.out.2.2.2.2.1 (by unfold I64; decide) (by unfold I64; decide) er at_ s2 HP.out).mono ?_
      rintro e w4 ⟨F4, rfl, hM, hmv⟩
      have H4 : Hid (Mine18 LP W w4 q (k + 1) s2 F4) := hM
      clear hM hmv
      by_cases he0 : er = 0
      case neg =>
        have heb : (er != 0) = true := by simp [he0]
        clear he0
        go_wp2
        go_ret
        exact ⟨rfl, H4.out.below⟩
      case pos =>
      subst he0
      obtain ⟨t0, ht0⟩ : ∃ t, t = s.t := ⟨_, rfl⟩
      obtain ⟨z0, hz0⟩ : ∃ z, z = s.z := ⟨_, rfl⟩
      have HF : Hid (Tq.Well t0 ∧ Tq.bad t0 1 z0 bs = none) := by
        have h := Pt.foreseen (s := s) (id := 7) (z := 1) (os := bs) (by rw [HP.out]) H3.out.2
        rw [ht0, hz0]
        exact ⟨H3.out.1.fit.well, h.2⟩
      have HF2 : Hid (Pt.Fs 7 1 bs t0 s2) := by
        have h := (Pt.foreseen (s := s) (id := 7) (z := 1) (os := bs) (by rw [HP.out]) H3.out.2).1
        rw [HP.out] at h
        rw [ht0]
        exact h
      obtain ⟨m, hm⟩ : ∃ m, m = k + 1 := ⟨_, rfl⟩
      have HMM : Hid (m ≤ 21) := (show m ≤ 21 by have := HB0.out; omega)
      have H40 : Hid (Mine18 LP W w4 q (m + 0) s2 F4 ∧ Pt.Fs 7 1 bs t0 s2) := by rw [hm]; exact ⟨H4.out, HF2.out⟩
      clear ht0 hz0 hm H4 HF2 HB0 H3 hlt hlt' hk HP
      go_wp2
      go_loopw [14] (fun i wx => ∃ (k : Nat) (s : Pt.St) (F : Nat → Prop), k ≤ N ∧ i = .int .i64 (k : Int) ∧ Mine18 LP W wx q (m + k) s F ∧ Pt.Fs 7 1 bs t0 s) (fun i _ => N - (intOf i).toNat)
      case atStart => exact ⟨0, s2, F4, Nat.zero_le _, rfl, H40.out⟩
      case round =>
        obtain ⟨k, s, F, hk, rfl, hM, hfs⟩ := hrel
        have H3 : Hid (Mine18 LP W wr q (m + k) s F ∧ Pt.Fs 7 1 bs t0 s) := ⟨hM, hfs⟩
        have HFS : Hid (Pt.Fs 7 1 bs t0 s) := hfs
        clear hM hfs
        by_cases hlt : k < N
        · have M1 : True := trivial
          have HMK : Hid (m + k ≤ 1000) := (show m + k ≤ 1000 by have := HMM.out; have := HA.out; omega)
          have hlt' : (k : Int) < (N : Int) := by omega
          have hk0 : (0 : Int) ≤ (k : Int) := by omega
          have hwk : IntKind.wrap .i64 ((k : Int) + 1) = (k : Int) + 1 := by rw [IntKind.wrap_i64]; omega
          obtain ⟨x, hx⟩ : ∃ x, xs[k]? = some x := ⟨xs[k]'(by rw [← HV.out.2]; exact hlt), List.getElem?_eq_getElem _⟩
          obtain ⟨g, o, b, L, cc, rfl, hL, hol, hcl⟩ := HV.out.1.at hx
          obtain ⟨c0, c1, c2, c3, c4⟩ := hcl wr H3.out.1.below
          have HX : Hid (AcOk18 x ∧ Om12 wr F (.slice b L cc) x.ops) := ⟨HX0.out x (List.mem_of_getElem? hx), arg18 hol H3.out.1.below H3.out.1.hi⟩
          clear hx hL hol hcl
          obtain ⟨op, id, sess, os, yes⟩ := x
          obtain ⟨bx, hbx⟩ : ∃ z, z = wr.heap.size := ⟨_, rfl⟩
          have H4 : Hid (At18 LP W (wr.alloc (.cells #[.int .i64 op, .int .i64 id, .int .i64 sess, .slice b L cc, .bool yes] 50)) q (m + k) s F bx ⟨op, id, sess, os, yes⟩ (.slice b L cc)) := by
            have hba := (Below.refl _ wr).alloc (Nat.le_refl _) (.cells #[.int .i64 op, .int .i64 id, .int .i64 sess, .slice b L cc, .bool yes] 50)
            exact ⟨H3.out.1.later HS.out.1 hba, by rw [hbx]; exact Kept11.made wr F (fun k hk => H3.out.1.flt HS.out.1 k hk) (ac18 ⟨op, id, sess, os, yes⟩ (.slice b L cc)) _, HX.out.2.later hba⟩
          have HY : Hid (I64 id ∧ I64 sess ∧ os.length ≤ maxLen ∧ ∀ o ∈ os, OFit o) := ⟨HX.out.1.id, HX.out.1.sess, HX.out.1.len, HX.out.1.ops⟩
          go_upto_region 17 with fail
          clear c0 c1 c2 c3 c4 H3 HX M1
          rw [← hbx]
          clear hbx
          generalize (wr.alloc (.cells #[.int .i64 op, .int .i64 id, .int .i64 sess, .slice b L cc, .bool yes] 50)) = w4 at *
          have c3 := H4.out.c3
          go_wp2_with fail
          refine (long_any18 (.slice b L cc) os w4 H4.out.arg.ol HY.out.2.2.1).mono ?_
          rintro e w5 ⟨rfl, hb⟩
          have H5 : Hid (At18 LP W w5 q (m + k) s F bx ⟨op, id, sess, os, yes⟩ (.slice b L cc)) := H4.out.later HS.out.1 hb
          clear hb H4 c3
          cases hgr : greatB os with
          | true =>
            clear hgr
            go_wp2
            go_ret
            exact ⟨rfl, H5.out.my.below⟩
          | false =>
          clear hgr
          have c1 := H5.out.c1
          by_cases h7 : id = 7
          · subst h7
            have H8 : Hid (Mine18 LP W w5 q (m + (k + 1)) s F ∧ Pt.Fs 7 1 bs t0 s) := ⟨H5.out.my.mono (by omega), HFS.out⟩
            go_wp2
            go_roundw
            case rel => exact ⟨k + 1, s, F, by omega, by go_num, H8.out⟩
            case measure => simp [intOf]; omega
          have h7b : (id == 7) = false := by simp [h7]
          have H7 : Hid (id ≠ 7) := h7
          clear h7
          have c0 := H5.out.c0
          have c2 := H5.out.c2
          have c3 := H5.out.c3
          by_cases e0 : op = 0
          · subst e0
            obtain ⟨r, s2, hr⟩ : ∃ r s2, Pt.local_ s sess id os = (r, s2) := ⟨_, _, rfl⟩
            have HR : Hid (Pt.local_ s sess id os = (r, s2) ∧ Pt.Fs 7 1 bs t0 s2) := ⟨hr, by have h := HFS.out.loc H5.out.my.fit sess id os; rw [hr] at h; exact h⟩
            clear hr
            go_wp2_with fail
            clear c0 c1 c2 c3 h7b
            refine (H5.out.my.loc HS.out.1 HS.out.2.1 HMK.out sess id (.slice b L cc) os H5.out.arg HY.out.2.2.2 HY.out.2.2.1 HY.out.2.1 r s2 HR.out.1).mono ?_
            rintro e w8 ⟨F8, u, rfl, hrn, hM, hmv⟩
            have H8 : Hid (Mine18 LP W w8 q (m + (k + 1)) s2 F8 ∧ Pt.Fs 7 1 bs t0 s2) := ⟨hM, HR.out.2⟩
            clear hrn hM hmv H5
            unfold rpv
            go_wp2
            go_roundw
            case rel => exact ⟨k + 1, s2, F8, by omega, by go_num, H8.out⟩
            case measure => simp [intOf]; omega
          by_cases e1 : op = 1
          · subst e1
            clear e0
            obtain ⟨a, b2, s2, hr⟩ : ∃ a b2 s2, Pt.prepare s id sess os = ((a, b2), s2) := ⟨_, _, _, rfl⟩
            have HR : Hid (Pt.prepare s id sess os = ((a, b2), s2) ∧ Pt.Fs 7 1 bs t0 s2) := ⟨hr, by have h := HFS.out.prep H7.out sess os; rw [hr] at h; exact h⟩
            clear hr
            go_wp2_with fail
            clear c0 c1 c2 c3 h7b
            refine (H5.out.my.prep HS.out.1 HS.out.2.1 HMK.out id sess (.slice b L cc) os H5.out.arg HY.out.2.2.2 HY.out.2.2.1 HY.out.1 HY.out.2.1 a b2 s2 HR.out.1).mono ?_
            rintro e w8 ⟨F8, rfl, hM, hmv⟩
            have H8 : Hid (Mine18 LP W w8 q (m + (k + 1)) s2 F8 ∧ Pt.Fs 7 1 bs t0 s2) := ⟨hM, HR.out.2⟩
            clear hM hmv H5
            go_wp2
            go_roundw
            case rel => exact ⟨k + 1, s2, F8, by omega, by go_num, H8.out⟩
            case measure => simp [intOf]; omega
          by_cases e2 : op = 2
          · subst e2
            clear e0 e1
            obtain ⟨a, b2, s2, hr⟩ : ∃ a b2 s2, Pt.close s id sess = ((a, b2), s2) := ⟨_, _, _, rfl⟩
            have HR : Hid (Pt.close s id sess = ((a, b2), s2) ∧ Pt.Fs 7 1 bs t0 s2) := ⟨hr, by have h := HFS.out.clo H5.out.my.fit H7.out sess; rw [hr] at h; exact h⟩
            clear hr
            go_wp2_with fail
            clear c0 c1 c2 c3 h7b
            refine (H5.out.my.clo HS.out.1 HS.out.2.1 HMK.out id sess HY.out.1 HY.out.2.1 a b2 s2 HR.out.1).mono ?_
            rintro e w8 ⟨F8, rfl, hM, hmv⟩
            have H8 : Hid (Mine18 LP W w8 q (m + (k + 1)) s2 F8 ∧ Pt.Fs 7 1 bs t0 s2) := ⟨hM, HR.out.2⟩
            clear hM hmv H5
            go_wp2
            go_roundw
            case rel => exact ⟨k + 1, s2, F8, by omega, by go_num, H8.out⟩
            case measure => simp [intOf]; omega
          have f0 : (op == 0) = false := by simp [e0]
          have f1 : (op == 1) = false := by simp [e1]
          have f2 : (op == 2) = false := by simp [e2]
          clear e0 e1 e2
          have c4 := H5.out.c4
          obtain ⟨rs, er, s2, hr⟩ : ∃ rs er s2, Pt.decide_ s id yes = ((rs, er), s2) := ⟨_, _, _, rfl⟩
          have HR : Hid (Pt.decide_ s id yes = ((rs, er), s2) ∧ Pt.Fs 7 1 bs t0 s2) := ⟨hr, by have h := HFS.out.dec H5.out.my.fit H7.out yes; rw [hr] at h; exact h⟩
          clear hr
          go_wp2_with fail
          clear c0 c1 c2 c3 c4 h7b
          refine (H5.out.my.dec HS.out.1 HS.out.2.1 HMK.out id yes HY.out.1 rs er s2 HR.out.1).mono ?_
          rintro e w8 ⟨F8, u, rfl, hrn, hM, hmv⟩
          have H8 : Hid (Mine18 LP W w8 q (m + (k + 1)) s2 F8 ∧ Pt.Fs 7 1 bs t0 s2) := ⟨hM, HR.out.2⟩
          clear hrn hM hmv H5 f0 f1 f2
          go_wp2
          go_roundw
          case rel => exact ⟨k + 1, s2, F8, by omega, by go_num, H8.out⟩
          case measure => simp [intOf]; omega
        · have hlt' : ¬ (k : Int) < (N : Int) := by omega
          obtain ⟨mm, hmm⟩ : ∃ mm, mm = m + k := ⟨_, rfl⟩
          have H5 : Hid (Mine18 LP W wr q mm s F ∧ mm ≤ 1000) := by rw [hmm]; exact ⟨H3.out.1, by have := HMM.out; have := HA.out; omega⟩
          clear hmm H3 H40 hlt hk
          go_wp2_with fail
          clear hlt'
          refine (H5.out.1.tree HS.out.1).mono ?_
          rintro e w5 ⟨q2, F2, rfl, hT, hlo, hM, hb⟩
          have H6 : Hid (Mine18 LP W w5 q mm s F ∧ LT w5 q2 s.t F2) := ⟨hM, hT⟩
          clear hT hlo hM hb
          unfold dptr
          go_wp2_with fail
          refine (H6.out.1.own HS.out.2.2.1 HS.out.2.2.2 (H6.out.1.flt HS.out.1) H6.out.2 H6.out.1.fit.well.fine 30).mono ?_
          rintro e w6 ⟨q6, v6, es, rfl, hR, hes, hb⟩
          have H7 : Hid (Mine18 LP W w6 q mm s F ∧ Ro11 W w6 F q6 30 v6 es ∧ es.map (·.1) = s.t.l) := ⟨H6.out.1.later HS.out.1 hb, hR, hes⟩
          clear hR hes hb H6
          unfold dptr
          cases co with
          | false =>
            have HD : Hid (Pt.decide_ s 7 false = (([], 0), Pt.gone s 7)) := Pt.dec_no18 (by
              obtain ⟨p, hp, e⟩ := HFS.out.here
              exact ⟨p, hp, by rw [e]⟩)
            go_wp2_with fail
            refine (H7.out.1.dec HS.out.1 HS.out.2.1 H5.out.2 7 false (by unfold I64; decide) [] 0 (Pt.gone s 7) HD.out).mono ?_
            rintro e w7 ⟨F7, u, rfl, hrn, hM, hmv⟩
            obtain ⟨ua, uc, rfl⟩ := hrn.form
            have H8 : Hid (Mine18 LP W w7 q (mm + 1) (Pt.gone s 7) F7 ∧ Ro11 W w7 F7 q6 30 v6 es) := ⟨hM, H7.out.2.1.moved hmv⟩
            have HES : Hid (es.map (·.1) = s.t.l) := H7.out.2.2
            clear hrn hM hmv H7 H5
            go_wp2_with fail
            refine (H8.out.1.tree HS.out.1).mono ?_
            rintro e w8 ⟨q3, F3, rfl, hT, hlo, hM, hb⟩
            have H9 : Hid (Mine18 LP W w8 q (mm + 1) (Pt.gone s 7) F7 ∧ LT w8 q3 s.t F3 ∧ Ro11 W w8 F7 q6 30 v6 es) := ⟨hM, hT, H8.out.2.later hb⟩
            clear hT hlo hM hb H8
            unfold dptr
            go_wp2_with fail
            refine (H9.out.1.own HS.out.2.2.1 HS.out.2.2.2 (H9.out.1.flt HS.out.1) H9.out.2.1 H9.out.1.fit.well.fine 30).mono ?_
            rintro e w9 ⟨q9, v9, es9, rfl, hR, hes, hb⟩
            have H10 : Hid (Below W.heap.size W w9 ∧ Ro11 W w9 F7 q9 30 v9 es9 ∧ es9.map (·.1) = s.t.l ∧ Ro11 W w9 F7 q6 30 v6 es ∧ Fine11 s.t) := ⟨(H9.out.1.later HS.out.1 hb).below, hR, hes, H9.out.2.2.later hb, H9.out.1.fit.well.fine⟩
            clear hR hes hb H9
            unfold dptr
            go_wp2_with fail
            refine (alike18 H10.out.2.1 H10.out.2.2.2.1 H10.out.2.2.1 HES.out H10.out.2.2.2.2).mono ?_
            rintro e w10 ⟨rfl, hb⟩
            have H11 : Hid (Below W.heap.size W w10) := H10.out.1.trans (hb.mono H10.out.1.size)
            clear hb H10
            go_wp2
            go_ret
            exact ⟨rfl, H11.out⟩
          | true =>
            obtain ⟨ys, er, s2, hr⟩ : ∃ ys er s2, Pt.decide_ s 7 true = ((ys, er), s2) := ⟨_, _, _, rfl⟩
            have HD : Hid (Pt.decide_ s 7 true = ((ys, 0), s2) ∧ ys.length = bs.length ∧ er = 0 ∧ ∀ x ∈ ys, x.err = 0 ∧ Pl.goodB x.path.data.toList = true) := by
              have h := HFS.out.fin H7.out.1.fit HF.out.1 HF.out.2
              rw [hr] at h
              obtain ⟨h1, h2, h3⟩ := h
              have h1 : er = 0 := h1
              exact ⟨by rw [hr, h1], h2, h1, h3⟩
            clear hr
            go_wp2_with fail
            refine (H7.out.1.dec HS.out.1 HS.out.2.1 H5.out.2 7 true (by unfold I64; decide) ys 0 s2 HD.out.1).mono ?_
            rintro e w7 ⟨F7, u, rfl, hrn, hM, hmv⟩
            obtain ⟨ua, uc, rfl⟩ := hrn.form
            obtain ⟨M, hM2⟩ : ∃ M, M = ys.length := ⟨_, rfl⟩
            rw [← hM2] at hrn ⊢
            have HM : Hid (M = ys.length ∧ M = nb ∧ M ≤ 20) := ⟨hM2, by rw [hM2, HD.out.2.1, HN.out.2], by rw [hM2, HD.out.2.1, ← HN.out.2]; exact HGB.out⟩
            have hMn : M = nb := HM.out.2.1
            have hM20 : M ≤ 20 := HM.out.2.2
            subst hMn
            have H8 : Hid (Below W.heap.size W w7 ∧ Rn12 w6.heap.size F7 w7 (.slice ua M uc) ys) := ⟨hM.below, hrn⟩
            have hMM : ((M : Int) != (M : Int)) = false := by simp
            clear hrn hM hmv hM2 H7 H5
            go_wp2
            clear hMM
            go_loopw [19] (fun i wx => ∃ (j : Nat), j ≤ M ∧ i = .int .i64 (j : Int) ∧ Below W.heap.size W wx ∧ Rn12 w6.heap.size F7 wx (.slice ua M uc) ys) (fun i _ => M - (intOf i).toNat)
            case atStart => exact ⟨0, Nat.zero_le _, rfl, H8.out⟩
            case round =>
              obtain ⟨j, hj, rfl, hb, hrn⟩ := hrel
              have H9 : Hid (Below W.heap.size W wr ∧ Rn12 w6.heap.size F7 wr (.slice ua M uc) ys) := ⟨hb, hrn⟩
              clear hb
              by_cases hlt : j < M
              · have hlt' : (j : Int) < (M : Int) := by omega
                have hj0 : (0 : Int) ≤ (j : Int) := by omega
                have hwk : IntKind.wrap .i64 ((j : Int) + 1) = (j : Int) + 1 := by rw [IntKind.wrap_i64]; omega
                obtain ⟨y, hy⟩ : ∃ y, ys[j]? = some y := ⟨ys[j]'(by rw [← HM.out.1]; exact hlt), List.getElem?_eq_getElem _⟩
                obtain ⟨y1, y2⟩ := HD.out.2.2.2 y (List.mem_of_getElem? hy)
                obtain ⟨g, b, rfl, k0, k1⟩ := hrn.cells18 hy
                rw [y1] at k0
                have hpe : y.path.toList.isEmpty = false := by
                  have e1 : y.path.toList.isEmpty = decide (y.path.size = 0) := empty_size y.path
                  rw [e1, decide_eq_false_iff_not]
                  intro e
                  have e2 : y.path.data.toList = [] := List.length_eq_zero_iff.1 (by rw [Array.length_toList]; exact e)
                  rw [e2] at y2
                  exact absurd y2 (by rw [show Pl.goodB [] = false from by kernel_rfl]; simp)
                clear hy y1 y2 hrn
                go_wp2
                go_roundw
                case rel => exact ⟨j + 1, by omega, by go_num, H9.out⟩
                case measure => simp [intOf]; omega
              · have hlt' : ¬ (j : Int) < (M : Int) := by omega
                clear hrn
                go_wp2
                go_ret
                exact ⟨rfl, H9.out.1⟩
end Go.Proofs.YtboejbjobjhajaaGreatDoor
