/- SessLives' walk. -/
import Derived.Test.YtlabdhllindenaaActs15
namespace Go.Proofs.Ytlabdhllindenaa.Sq
/-- One session alone, till t. -/
def solo (now span t : Int) : St := ⟨3, now, 2, if now < t then [⟨1, span, t⟩] else []⟩
theorem solo_in {now span t : Int} (h : now < t) : solo now span t = ⟨3, now, 2, [⟨1, span, t⟩]⟩ := by unfold solo; rw [if_pos h]
theorem solo_out {now span t : Int} (h : ¬ now < t) : solo now span t = ⟨3, now, 2, []⟩ := by unfold solo; rw [if_neg h]
theorem solo_tick {now span t : Int} : tick (solo now span t) = solo (now + 1) span t := by
  by_cases h : now < t
  · rw [solo_in h]
    by_cases h2 : now + 1 < t
    · rw [solo_in h2]
      have e : ends (now + 1) ⟨1, span, t⟩ = false := decide_eq_false (by simp only []; omega)
      simp [tick, e]
    · rw [solo_out h2]
      have e : ends (now + 1) ⟨1, span, t⟩ = true := decide_eq_true (by simp only []; omega)
      simp [tick, e]
  · rw [solo_out h, solo_out (by omega)]
    rfl
theorem solo_over {now span t : Int} : over (solo now span t) = if now + 1 = t then [1] else [] := by
  by_cases h : now < t
  · rw [solo_in h]
    by_cases h2 : now + 1 = t
    · rw [if_pos h2]
      have e : ends (now + 1) ⟨1, span, t⟩ = true := decide_eq_true (by simp only []; omega)
      simp [over, e]
    · rw [if_neg h2]
      have e : ends (now + 1) ⟨1, span, t⟩ = false := decide_eq_false (by simp only []; omega)
      simp [over, e]
  · rw [solo_out h, if_neg (by omega)]
    rfl
theorem solo_touch {now span t : Int} (h : now < t) (hs : 1 ≤ span) : touch (solo now span t) 1 = (0, solo now span (now + span)) := by
  rw [solo_in h, solo_in (by omega)]
  simp [touch, has, renew]
theorem solo_live {now span t : Int} : has (solo now span t).l 1 = decide (now < t) := by
  by_cases h : now < t
  · rw [solo_in h]
    simp [has, h]
  · rw [solo_out h]
    simp [has, h]
end Go.Proofs.Ytlabdhllindenaa.Sq
namespace Go.Proofs.Ytlabdhllindenaa
open Go.RowKit

set_option maxRecDepth 20000 in
set_option maxHeartbeats 8000000 in
theorem lives_any15 {LS : Rep15} (S : Specs15 LS) (span : Int) (v : Value) (zs : List Int) (more : Int) (W : World) (hv : Bi W v zs) (hl : zs.length ≤ maxLen) :
    Calls Try.prog 6 #[.int .i64 span, v, .int .i64 more] W fun e w' => e = .returned (.bool true) ∧ Below W.heap.size W w' := by
  have HS : Hid (Specs15 LS) := S
  obtain ⟨av, N, c, rfl, hN, hj⟩ := hv
  have HV : Hid (Bi W (.slice av N c) zs ∧ N = zs.length) := ⟨⟨av, N, c, rfl, hN, hj⟩, hN⟩
  have hN1 : N ≤ 9223372036854775807 := by unfold maxLen at hl; omega
  clear S hl hN hj
  go_enter Try.func6, Try.ntmps6
  go_wp2_with fail
  refine (awake_any15 HS.out W).mono ?_
  rintro e w0 ⟨rfl, hb0⟩
  have H0 : Hid (Below W.heap.size W w0) := hb0
  clear hb0
  by_cases h1 : span < 1
  · go_wp2
    go_ret
    exact ⟨rfl, H0.out⟩
  by_cases h2 : 100 < span
  · go_wp2
    go_ret
    exact ⟨rfl, H0.out⟩
  by_cases h10 : 10 < N
  · have h10' : (10 : Int) < (N : Int) := by omega
    go_wp2
    go_ret
    exact ⟨rfl, H0.out⟩
  have h10' : ¬ (10 : Int) < (N : Int) := by omega
  by_cases h3 : more < 0
  · go_wp2
    go_ret
    exact ⟨rfl, H0.out⟩
  by_cases h4 : 200 < more
  · go_wp2
    go_ret
    exact ⟨rfl, H0.out⟩
  have HSP : Hid (1 ≤ span ∧ span ≤ 100) := ⟨by omega, by omega⟩
  go_wp2_with fail
  refine (mine15_new HS.out H0.out 3 (by decide)).mono ?_
  rintro e w1 ⟨q, F1, rfl, hM⟩
  have M1 : Hid (Mine15 LS W w1 q 1 (Sq.new 3) F1) := hM
  clear hM H0
  go_wp2_with fail
  refine (M1.out.opn HS.out (by decide) span 1 0 (Sq.solo 0 span span) (by rw [Sq.solo_in (by omega)]; unfold Sq.op Sq.new; rw [if_neg (by omega), if_neg (by simp)]; simp)).mono ?_
  rintro e w2 ⟨F2, rfl, hM, hmv⟩
  have M2 : Hid (Mine15 LS W w2 q 2 (Sq.solo 0 span (0 + span)) F2) := by rw [Int.zero_add]; exact hM
  clear hM hmv M1
  go_wp2
  go_loopw [11] (fun i wx => ∃ (k : Nat) (T : Nat) (F : Nat → Prop), k ≤ N ∧ i = .int .i64 (k : Int) ∧ T ≤ 101 * k ∧ Mine15 LS W wx q (2 + 101 * (k : Int)) (Sq.solo (T : Int) span ((T : Int) + span)) F) (fun i _ => N - (intOf i).toNat)
  case atStart => exact ⟨0, 0, F2, Nat.zero_le _, rfl, Nat.le_refl _, M2.out⟩
  case round =>
    obtain ⟨k, T, F, hk, rfl, hT, hM⟩ := hrel
    have H3 : Hid (Mine15 LS W wr q (2 + 101 * (k : Int)) (Sq.solo (T : Int) span ((T : Int) + span)) F) := hM
    clear hM M2
    by_cases hlt : k < N
    · have hlt' : (k : Int) < (N : Int) := by omega
      have hk0 : (0 : Int) ≤ (k : Int) := by omega
      have hwk : IntKind.wrap .i64 ((k : Int) + 1) = (k : Int) + 1 := by rw [IntKind.wrap_i64]; omega
      obtain ⟨gp, hgp⟩ : ∃ x, zs[k]? = some x := ⟨zs[k]'(by rw [← HV.out.2]; exact hlt), List.getElem?_eq_getElem _⟩
      have HX : Hid (zs[k]? = some gp) := hgp
      obtain ⟨g, o, rfl, c0⟩ := (HV.out.1.below H3.out.below).at15 hgp
      clear hgp
      have HC : Hid (∀ w', Below W.heap.size W w' → w'.cell? ⟨g, o + k, none⟩ = some (.int .i64 gp)) := fun w' hb => by
        obtain ⟨g', o', e, hc⟩ := (HV.out.1.below hb).at15 HX.out
        simp only [Option.some.injEq, Addr.mk.injEq, and_true] at e
        obtain ⟨rfl, rfl⟩ := e
        exact hc
      by_cases g1 : gp < 0
      · go_wp2
        go_ret
        exact ⟨rfl, H3.out.below⟩
      by_cases g2 : span ≤ gp
      · go_wp2
        go_ret
        exact ⟨rfl, H3.out.below⟩
      obtain ⟨G, hG⟩ : ∃ G : Nat, gp = (G : Int) := ⟨gp.toNat, by omega⟩
      subst hG
      go_wp2
      go_loopw [12] (fun j wx => ∃ (i : Nat) (F : Nat → Prop), i ≤ G ∧ j = .int .i64 (i : Int) ∧ Mine15 LS W wx q (2 + 101 * (k : Int) + (i : Int)) (Sq.solo ((T : Int) + (i : Int)) span ((T : Int) + span)) F) (fun j _ => G - (intOf j).toNat)
      case atStart => exact ⟨0, F, Nat.zero_le _, rfl, by simpa using H3.out⟩
      case round =>
        obtain ⟨i, F4, hi, rfl, hM⟩ := hrel
        have H4 : Hid (Mine15 LS W wr q (2 + 101 * (k : Int) + (i : Int)) (Sq.solo ((T : Int) + (i : Int)) span ((T : Int) + span)) F4) := hM
        clear hM H3
        have c1 : wr.cell? ⟨g, o + k, none⟩ = some (.int .i64 (G : Int)) := HC.out _ H4.out.below
        by_cases hiG : i < G
        · have hiG' : (i : Int) < (G : Int) := by omega
          have hwi : IntKind.wrap .i64 ((i : Int) + 1) = (i : Int) + 1 := by rw [IntKind.wrap_i64]; omega
          have HOV : Hid (Sq.over (Sq.solo ((T : Int) + (i : Int)) span ((T : Int) + span)) = []) := (show _ = _ by rw [Sq.solo_over, if_neg (by omega)])
          go_wp2_with fail
          refine (H4.out.tick HS.out (by omega) [] (Sq.solo ((T : Int) + ((i + 1 : Nat) : Int)) span ((T : Int) + span)) HOV.out (by rw [Sq.solo_tick]; congr 1)).mono ?_
          rintro e w5 ⟨F5, va, rfl, hia, hoa, hM, hmv⟩
          have H5 : Hid (Mine15 LS W w5 q (2 + 101 * (k : Int) + ((i + 1 : Nat) : Int)) (Sq.solo ((T : Int) + ((i + 1 : Nat) : Int)) span ((T : Int) + span)) F5) := by
            have e1 : 2 + 101 * (k : Int) + ((i + 1 : Nat) : Int) = 2 + 101 * (k : Int) + (i : Int) + 1 := by omega
            rw [e1]
            exact hM
          obtain ⟨a3, n3, c3, rfl, hn3, hc3⟩ := hia
          have j0 : n3 = 0 := hn3
          subst j0
          clear hM hmv hoa hn3 hc3 H4 c1
          go_wp2
          go_roundw
          case rel => exact ⟨i + 1, F5, by omega, by go_num, H5.out⟩
          case measure => simp [intOf]; omega
        · have hiG' : ¬ (i : Int) < (G : Int) := by omega
          obtain rfl : i = G := by omega
          go_wp2_with fail
          refine (H4.out.touch HS.out (by omega) 1 0 (Sq.solo ((T : Int) + (i : Int)) span ((T : Int) + (i : Int) + span)) (Sq.solo_touch (by omega) HSP.out.1)).mono ?_
          rintro e w5 ⟨F5, rfl, hM, hmv⟩
          have H5 : Hid (Mine15 LS W w5 q (2 + 101 * ((k + 1 : Nat) : Int)) (Sq.solo ((T + i : Nat) : Int) span (((T + i : Nat) : Int) + span)) F5) := by
            have e1 : ((T + i : Nat) : Int) = (T : Int) + (i : Int) := by omega
            rw [e1]
            exact hM.mono (by have := HSP.out; omega)
          clear hM hmv H4 c1
          go_wp2
          go_roundw
          case rel => exact ⟨k + 1, T + i, F5, by omega, by go_num, by have := HSP.out; omega, H5.out⟩
          case measure => simp [intOf]; omega
    · have hlt' : ¬ (k : Int) < (N : Int) := by omega
      obtain ⟨M, hM⟩ : ∃ M : Nat, more = (M : Int) := ⟨more.toNat, by omega⟩
      subst hM
      go_wp2
      go_loopw [13] (fun j wx => ∃ (i : Nat) (F : Nat → Prop), i ≤ M ∧ j = .int .i64 ((i : Int) + 1) ∧ Mine15 LS W wx q (2 + 101 * (k : Int) + (i : Int)) (Sq.solo ((T : Int) + (i : Int)) span ((T : Int) + span)) F) (fun j _ => M + 1 - (intOf j).toNat)
      case atStart => exact ⟨0, F, Nat.zero_le _, rfl, by simpa using H3.out⟩
      case round =>
        obtain ⟨i, F4, hi, rfl, hM⟩ := hrel
        have H4 : Hid (Mine15 LS W wr q (2 + 101 * (k : Int) + (i : Int)) (Sq.solo ((T : Int) + (i : Int)) span ((T : Int) + span)) F4) := hM
        clear hM H3
        by_cases hiM : i < M
        · have hiM' : (i : Int) + 1 ≤ (M : Int) := by omega
          have hwi : IntKind.wrap .i64 ((i : Int) + 1 + 1) = (i : Int) + 1 + 1 := by rw [IntKind.wrap_i64]; omega
          have HTK : Hid (Sq.tick (Sq.solo ((T : Int) + (i : Int)) span ((T : Int) + span)) = Sq.solo ((T : Int) + ((i + 1 : Nat) : Int)) span ((T : Int) + span)) := (show _ = _ by rw [Sq.solo_tick]; congr 1)
          by_cases hs : (i : Int) + 1 = span
          · have hsb : ((i : Int) + 1 == span) = true := by simp [hs]
            have HOV : Hid (Sq.over (Sq.solo ((T : Int) + (i : Int)) span ((T : Int) + span)) = [1]) := (show _ = _ by rw [Sq.solo_over, if_pos (by omega)])
            clear hs
            go_wp2_with fail
            refine (H4.out.tick HS.out (by omega) [1] _ HOV.out HTK.out).mono ?_
            rintro e w5 ⟨F5, va, rfl, hia, hoa, hM, hmv⟩
            have H5 : Hid (Mine15 LS W w5 q (2 + 101 * (k : Int) + ((i + 1 : Nat) : Int)) (Sq.solo ((T : Int) + ((i + 1 : Nat) : Int)) span ((T : Int) + span)) F5) := by
              have e1 : 2 + 101 * (k : Int) + ((i + 1 : Nat) : Int) = 2 + 101 * (k : Int) + (i : Int) + 1 := by omega
              rw [e1]
              exact hM
            obtain ⟨a3, n3, c3, rfl, hn3, hc3⟩ := hia
            have j0 : n3 = 1 := hn3
            subst j0
            clear hM hmv hoa hn3 hc3 H4
            go_wp2
            go_roundw
            case rel => exact ⟨i + 1, F5, by omega, by go_num, H5.out⟩
            case measure => simp [intOf]; omega
          · have hsb : ((i : Int) + 1 == span) = false := by simp [hs]
            have HOV : Hid (Sq.over (Sq.solo ((T : Int) + (i : Int)) span ((T : Int) + span)) = []) := (show _ = _ by rw [Sq.solo_over, if_neg (by omega)])
            clear hs
            go_wp2_with fail
            refine (H4.out.tick HS.out (by omega) [] _ HOV.out HTK.out).mono ?_
            rintro e w5 ⟨F5, va, rfl, hia, hoa, hM, hmv⟩
            have H5 : Hid (Mine15 LS W w5 q (2 + 101 * (k : Int) + ((i + 1 : Nat) : Int)) (Sq.solo ((T : Int) + ((i + 1 : Nat) : Int)) span ((T : Int) + span)) F5) := by
              have e1 : 2 + 101 * (k : Int) + ((i + 1 : Nat) : Int) = 2 + 101 * (k : Int) + (i : Int) + 1 := by omega
              rw [e1]
              exact hM
            obtain ⟨a3, n3, c3, rfl, hn3, hc3⟩ := hia
            have j0 : n3 = 0 := hn3
            subst j0
            clear hM hmv hoa hn3 hc3 H4
            go_wp2
            go_roundw
            case rel => exact ⟨i + 1, F5, by omega, by go_num, H5.out⟩
            case measure => simp [intOf]; omega
        · have hiM' : ¬ (i : Int) + 1 ≤ (M : Int) := by omega
          obtain rfl : i = M := by omega
          obtain ⟨lb, hlb⟩ : ∃ x, x = decide ((i : Int) < span) := ⟨_, rfl⟩
          have HLB : Hid (Sq.has (Sq.solo ((T : Int) + (i : Int)) span ((T : Int) + span)).l 1 = lb) := (show _ = _ by rw [Sq.solo_live, hlb]; exact decide_eq_decide.2 (by omega))
          go_wp2_with fail
          refine (H4.out.live HS.out 1 lb HLB.out).mono ?_
          rintro e w7 ⟨rfl, hM7, hb7⟩
          have H7 : Hid (Below W.heap.size W w7) := hM7.below
          clear hM7 hb7 H4
          cases lb with
          | true =>
            have hn : (i : Int) < span := by simpa using hlb.symm
            clear hlb
            go_wp2
            go_ret
            exact ⟨rfl, H7.out⟩
          | false =>
            have hn : decide ((i : Int) < span) = false := hlb.symm
            clear hlb
            go_wp2
            go_ret
            exact ⟨rfl, H7.out⟩
end Go.Proofs.Ytlabdhllindenaa
