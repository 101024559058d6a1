/- What multi's Do does. -/
import Derived.Test.YtfcbdjjbchcpjaaGreatDoorWTurn12
namespace Go.Proofs.YtfcbdjjbchcpjaaGreatDoor.Tq
theorem many_long {t : Tr} {s z : Int} {os : List O} (h : 16 < os.length) : many t s z os = ((Rq.fail 0 2 (-1) 0, false), t) := by unfold many; rw [if_pos h]
theorem many_nil {t : Tr} {s z : Int} {os : List O} (h : os.length = 0) : many t s z os = ((Rq.fail 0 1 (-1) 0, false), t) := by unfold many; rw [if_neg (by omega), if_pos h]
theorem many_no {t : Tr} {s z : Int} {os : List O} (h1 : os.length ≤ 16) (h0 : os.length ≠ 0) (hb : (turn t s z os).1.2 = false) : many t s z os = ((turn t s z os).1, t) := by unfold many; rw [if_neg (by omega), if_neg h0, hb]; rfl
theorem many_yes {t : Tr} {s z : Int} {os : List O} (h1 : os.length ≤ 16) (h0 : os.length ≠ 0) (hb : (turn t s z os).1.2 = true) : many t s z os = turn t s z os := by unfold many; rw [if_neg (by omega), if_neg h0, hb]; rfl
theorem many_one {t : Tr} {s z : Int} {os : List O} (h1 : os.length = 1) : many t s z os = turn t s z os := by
  cases hb : (turn t s z os).1.2 with
  | true => exact many_yes (by omega) (by omega) hb
  | false =>
    rw [many_no (by omega) (by omega) hb]
    cases hk : bad t s z os with
    | none => rw [turn_none hk] at hb; cases hb
    | some k =>
      rw [turn_some hk]
      have := bad_lt hk
      rw [show k.1 = 0 by omega]
      rfl
end Go.Proofs.YtfcbdjjbchcpjaaGreatDoor.Tq
namespace Go.Proofs.YtfcbdjjbchcpjaaGreatDoor
open Go.RowKit

theorem fin12 {LT : Rep11} (S : Specs11 LT) {W w : World} {q a B : Nat} {t : Tq.Tr} {F F' : Nat → Prop} {u : Value} {xs : List X} (hl : LT w q t F') (hr : Rn12 B F' w u xs) (hB : a < B) (ha : W.heap.size ≤ a) (haF : ¬ F' a) (hm : Moved W w F F') (ds : Array Value) :
    Rn12 W.heap.size F' (w.setRow a ds) u xs ∧ LT (w.setRow a ds) q t F' ∧ Moved W (w.setRow a ds) F F' :=
  ⟨(hr.keep (w' := w.setRow a ds) (fun k hk hF _ => ⟨setRow_other w a k ds (by omega), hF⟩)).low (by omega), S.keep hl (fun k hk => setRow_other w a k ds (fun e => haF (e ▸ hk))), ⟨hm.os, hm.tape, hm.output, by rw [setRow_size]; exact hm.size, fun k hk hF => (setRow_other w a k ds (by omega)).trans (hm.block k hk hF), hm.sub⟩⟩


set_option maxRecDepth 20000 in
set_option maxHeartbeats 8000000 in
theorem many_any12 {LT : Rep11} (S : Specs11 LT) (D : SpecD12 LT) (q : Nat) (t : Tq.Tr) (F : Nat → Prop) (s z : Int) (v : Value) (os : List O) (m : Nat) (w : World) (hL : LT w q t F) (hf : Fine11 t) (hk : Tq.Few t m) (hm : m ≤ 883) (h6 : ∀ k, F k → 6 ≤ k) (hS : Pa.Std w) (hO : Om12 w F v os) (hok : ∀ o ∈ os, OFit o) (hn : os.length ≤ 9223372036854775807) :
    Calls Tryz.prog 41 #[dptr q, .int .i64 s, .int .i64 z, v] w fun e w' => ∃ F' u, e = .returned (.tuple #[rpv (Tq.many t s z os).1.1 u, .bool (Tq.many t s z os).1.2]) ∧ Rn12 w.heap.size F' w' u (Tq.many t s z os).1.1.xs ∧ LT w' q (Tq.many t s z os).2 F' ∧ Moved w w' F F' := by
  obtain ⟨T, hT⟩ : ∃ T, T = Tq.many t s z os := ⟨_, rfl⟩
  rw [← hT]
  have HT : Hid (T = Tq.many t s z os) := hT
  have HS : Hid (Specs11 LT ∧ SpecD12 LT ∧ Fine11 t ∧ Tq.Few t m ∧ m ≤ 883 ∧ (∀ k, F k → 6 ≤ k) ∧ Pa.Std w ∧ (∀ o ∈ os, OFit o)) := ⟨S, D, hf, hk, hm, h6, hS, hok⟩
  have HVB : Hid (os ≠ [] → ∀ k, v.ownBlock = some k → k < w.heap.size) := fun hne k hk => hO.lt hne hk
  have HFW : Hid (∀ k, F k → k < w.heap.size) := fun k hk => S.lt hL hk
  have hOl := hO.ol
  obtain ⟨va, n, vc, rfl, hnn, hjj⟩ := hOl
  have HN : Hid (n = os.length) := hnn
  have hn1 : n ≤ 9223372036854775807 := by omega
  obtain ⟨a, ha⟩ : ∃ a, a = w.heap.size := ⟨_, rfl⟩
  have H0 : Hid (LT (w.alloc (.cells #[.int .i64 0, .int .i64 0, .int .i64 0, .int .i64 0, .slice none 0 0] 73)) q t F ∧ Below w.heap.size w (w.alloc (.cells #[.int .i64 0, .int .i64 0, .int .i64 0, .int .i64 0, .slice none 0 0] 73)) ∧ Kept11 (w.alloc (.cells #[.int .i64 0, .int .i64 0, .int .i64 0, .int .i64 0, .slice none 0 0] 73)) F a [.int .i64 0, .int .i64 0, .int .i64 0, .int .i64 0, .slice none 0 0] 73 ∧ Om12 (w.alloc (.cells #[.int .i64 0, .int .i64 0, .int .i64 0, .int .i64 0, .slice none 0 0] 73)) F (.slice va n vc) os) := by
    have hba := (Below.refl _ w).alloc (Nat.le_refl _) (.cells #[.int .i64 0, .int .i64 0, .int .i64 0, .int .i64 0, .slice none 0 0] 73)
    exact ⟨S.keep hL (fun k hk => hba.block k (S.lt hL hk)), hba, by rw [ha]; exact Kept11.made w F (fun k hk => S.lt hL hk) [.int .i64 0, .int .i64 0, .int .i64 0, .int .i64 0, .slice none 0 0] _, hO.later hba⟩
  have HA : Hid (w.heap.size ≤ a ∧ a < (w.alloc (.cells #[.int .i64 0, .int .i64 0, .int .i64 0, .int .i64 0, .slice none 0 0] 73)).heap.size) := ⟨by omega, by rw [World.size_alloc]; omega⟩
  clear S D hf hk hm h6 hS hok hjj hnn hO hL hT hn
  unfold dptr
  go_enter Tryz.func41, Tryz.ntmps41
  go_upto_region 1 with fail
  rw [← ha]
  clear ha
  generalize (w.alloc (.cells #[.int .i64 0, .int .i64 0, .int .i64 0, .int .i64 0, .slice none 0 0] 73)) = w0 at *
  by_cases h16 : 16 < n
  · have h16' : (16 : Int) < (n : Int) := by omega
    have HM : Hid (T = ((Rq.fail 0 2 (-1) 0, false), t)) := by
      have e : T = ((Rq.fail 0 2 (-1) 0, false), t) := by rw [HT.out]; exact Tq.many_long (by have := HN.out; omega)
      exact e
    go_wp2_with fail
    refine (fail_any12 0 2 (-1) 0 w0 (by decide) (by decide)).mono ?_
    rintro e w5 ⟨u, rfl, ⟨hrl, hnw⟩, hb⟩
    obtain ⟨r, hr0⟩ : ∃ r, r = Rq.fail 0 2 (-1) 0 := ⟨_, rfl⟩
    rw [← hr0] at hrl ⊢
    obtain ⟨F5, hF5⟩ : ∃ F5, F5 = F := ⟨_, rfl⟩
    have hrn : Rn12 w0.heap.size F5 w5 u r.xs := by rw [hF5]; exact Rn12.bare hrl hnw (by rw [hr0]; exact fail_bare _ _ _ _) (fun k hk => HS.out.1.lt H0.out.1 hk)
    have hl5 : LT w5 q T.2 F5 := by rw [hF5, HM.out]; exact HS.out.1.keep H0.out.1 (fun k hk => hb.block k (HS.out.1.lt H0.out.1 hk))
    have hm5 : Moved w w5 F F5 := by rw [hF5]; exact Moved.of_below F (H0.out.2.1.trans (hb.mono H0.out.2.1.size))
    have hk5 := H0.out.2.2.1.later hb
    rw [← hF5] at hk5
    have hb5 : T.1.2 = false := by rw [HM.out]
    have hr5 : r = T.1.1 := by rw [hr0, HM.out]
    clear hrl hnw hb hF5 hr0
    have hns := hrn
    obtain ⟨ua, uk, uc, rfl, hj1, hj2⟩ := hns
    have H5 : Hid (Rn12 w0.heap.size F5 w5 (.slice ua uk uc) r.xs ∧ LT w5 q T.2 F5 ∧ Moved w w5 F F5 ∧ Kept11 w5 F5 a [.int .i64 0, .int .i64 0, .int .i64 0, .int .i64 0, .slice none 0 0] 73 ∧ r = T.1.1 ∧ T.1.2 = false) := ⟨hrn, hl5, hm5, hk5, hr5, hb5⟩
    clear hrn hl5 hm5 hk5 hr5 hb5 hj1 hj2
    unfold rpv
    go_wp2_with (refine wpList_store_row rfl 73 _ _ rfl a ([.int .i64 r.num, .int .i64 r.zxid, .int .i64 r.err, .int .i64 r.at_, .slice ua uk uc] : List Value).toArray rfl rfl 73 _ H5.out.2.2.2.1.cb (by kernel_rfl) rfl (by kernel_rfl) ?_)
    have H9 := fin12 HS.out.1 H5.out.2.1 H5.out.1 HA.out.2 HA.out.1 H5.out.2.2.2.1.off H5.out.2.2.1 ([.int .i64 r.num, .int .i64 r.zxid, .int .i64 r.err, .int .i64 r.at_, .slice ua uk uc] : List Value).toArray
    (try simp only [Exit.inBlock, Exit.then])
    refine bodyPost_ret (v := .tuple #[.agg ([.int .i64 r.num, .int .i64 r.zxid, .int .i64 r.err, .int .i64 r.at_, .slice ua uk uc] : List Value).toArray, .bool false]) ?_ rfl ⟨F5, .slice ua uk uc, by rw [H5.out.2.2.2.2.2, ← H5.out.2.2.2.2.1]; rfl, by rw [← H5.out.2.2.2.2.1]; exact H9.1, H9.2.1, H9.2.2⟩
    exact (results_cell_tmp11 (p := 8) (s := 9) rfl _ _ a 73 _ (0, 0) _ rfl (H5.out.2.2.2.1.cb.rowed [.int .i64 r.num, .int .i64 r.zxid, .int .i64 r.err, .int .i64 r.at_, .slice ua uk uc]) Tryz.underlying73 rfl (by kernel_rfl)).trans rfl
  have h16' : ¬ (16 : Int) < (n : Int) := by omega
  by_cases h0 : n = 0
  · have HM : Hid (T = ((Rq.fail 0 1 (-1) 0, false), t)) := by
      have e : T = ((Rq.fail 0 1 (-1) 0, false), t) := by rw [HT.out]; exact Tq.many_nil (by have := HN.out; omega)
      exact e
    have h0' : ((n : Int) == 0) = true := by simp [h0]
    clear h0
    go_wp2_with fail
    refine (fail_any12 0 1 (-1) 0 w0 (by decide) (by decide)).mono ?_
    rintro e w5 ⟨u, rfl, ⟨hrl, hnw⟩, hb⟩
    obtain ⟨r, hr0⟩ : ∃ r, r = Rq.fail 0 1 (-1) 0 := ⟨_, rfl⟩
    rw [← hr0] at hrl ⊢
    obtain ⟨F5, hF5⟩ : ∃ F5, F5 = F := ⟨_, rfl⟩
    have hrn : Rn12 w0.heap.size F5 w5 u r.xs := by rw [hF5]; exact Rn12.bare hrl hnw (by rw [hr0]; exact fail_bare _ _ _ _) (fun k hk => HS.out.1.lt H0.out.1 hk)
    have hl5 : LT w5 q T.2 F5 := by rw [hF5, HM.out]; exact HS.out.1.keep H0.out.1 (fun k hk => hb.block k (HS.out.1.lt H0.out.1 hk))
    have hm5 : Moved w w5 F F5 := by rw [hF5]; exact Moved.of_below F (H0.out.2.1.trans (hb.mono H0.out.2.1.size))
    have hk5 := H0.out.2.2.1.later hb
    rw [← hF5] at hk5
    have hb5 : T.1.2 = false := by rw [HM.out]
    have hr5 : r = T.1.1 := by rw [hr0, HM.out]
    clear hrl hnw hb hF5 hr0
    have hns := hrn
    obtain ⟨ua, uk, uc, rfl, hj1, hj2⟩ := hns
    have H5 : Hid (Rn12 w0.heap.size F5 w5 (.slice ua uk uc) r.xs ∧ LT w5 q T.2 F5 ∧ Moved w w5 F F5 ∧ Kept11 w5 F5 a [.int .i64 0, .int .i64 0, .int .i64 0, .int .i64 0, .slice none 0 0] 73 ∧ r = T.1.1 ∧ T.1.2 = false) := ⟨hrn, hl5, hm5, hk5, hr5, hb5⟩
    clear hrn hl5 hm5 hk5 hr5 hb5 hj1 hj2
    unfold rpv
    go_wp2_with (refine wpList_store_row rfl 73 _ _ rfl a ([.int .i64 r.num, .int .i64 r.zxid, .int .i64 r.err, .int .i64 r.at_, .slice ua uk uc] : List Value).toArray rfl rfl 73 _ H5.out.2.2.2.1.cb (by kernel_rfl) rfl (by kernel_rfl) ?_)
    have H9 := fin12 HS.out.1 H5.out.2.1 H5.out.1 HA.out.2 HA.out.1 H5.out.2.2.2.1.off H5.out.2.2.1 ([.int .i64 r.num, .int .i64 r.zxid, .int .i64 r.err, .int .i64 r.at_, .slice ua uk uc] : List Value).toArray
    (try simp only [Exit.inBlock, Exit.then])
    refine bodyPost_ret (v := .tuple #[.agg ([.int .i64 r.num, .int .i64 r.zxid, .int .i64 r.err, .int .i64 r.at_, .slice ua uk uc] : List Value).toArray, .bool false]) ?_ rfl ⟨F5, .slice ua uk uc, by rw [H5.out.2.2.2.2.2, ← H5.out.2.2.2.2.1]; rfl, by rw [← H5.out.2.2.2.2.1]; exact H9.1, H9.2.1, H9.2.2⟩
    exact (results_cell_tmp11 (p := 8) (s := 9) rfl _ _ a 73 _ (0, 0) _ rfl (H5.out.2.2.2.1.cb.rowed [.int .i64 r.num, .int .i64 r.zxid, .int .i64 r.err, .int .i64 r.at_, .slice ua uk uc]) Tryz.underlying73 rfl (by kernel_rfl)).trans rfl
  have h0' : ((n : Int) == 0) = false := by simp; omega
  have HTC : Hid (∀ (q' : Nat) (F' : Nat → Prop) (w' : World), LT w' q' t F' → (∀ k, F' k → 6 ≤ k) → Pa.Std w' → Om12 w' F' (.slice va n vc) os → Calls Tryz.prog 80 #[dptr q', .int .i64 s, .int .i64 z, .slice va n vc] w' fun e w'' => ∃ F'' u, e = .returned (.tuple #[rpv (Tq.turn t s z os).1.1 u, .bool (Tq.turn t s z os).1.2]) ∧ Rn12 w'.heap.size F'' w'' u (Tq.turn t s z os).1.1.xs ∧ LT w'' q' (Tq.turn t s z os).2 F'' ∧ Moved w' w'' F' F'') := fun q' F' w' h1 h2 h3 h4 => turn_any12 HS.out.1 HS.out.2.1 q' t F' s z (.slice va n vc) os m w' h1 HS.out.2.2.1 HS.out.2.2.2.1 (by have := HN.out; have := HS.out.2.2.2.2.1; omega) h2 h3 h4 HS.out.2.2.2.2.2.2.2 (by have := HN.out; omega)
  unfold dptr at HTC
  by_cases h1 : 1 < n
  · have h1' : (1 : Int) < (n : Int) := by omega
    go_wp2_with fail
    refine (HS.out.1.copy q t F w0 H0.out.1 HS.out.2.2.1).mono ?_
    rintro e w1 ⟨q2, F2, rfl, hl2, hF2, hl1, hb1⟩
    have H1 : Hid (LT w1 q2 t F2 ∧ (∀ k, F2 k → w0.heap.size ≤ k) ∧ LT w1 q t F ∧ Below w0.heap.size w0 w1) := ⟨hl2, hF2, hl1, hb1⟩
    clear hl2 hF2 hl1 hb1
    unfold dptr
    go_wp2_with fail
    refine (HTC.out q2 F2 w1 H1.out.1 (fun k hk => by have h1 := H1.out.2.1 k hk; have h2 := HS.out.2.2.2.2.2.2.1.size; have h3 := H0.out.2.1.size; omega) (HS.out.2.2.2.2.2.2.1.below (H0.out.2.1.trans (H1.out.2.2.2.mono H0.out.2.1.size))) (H0.out.2.2.2.keep (fun k _ hl => H1.out.2.2.2.block k hl) (fun hne k hk e => by have h1 := H1.out.2.1 k e; have h2 := HVB.out hne k hk; have h3 := H0.out.2.1.size; omega))).mono ?_
    obtain ⟨r, B2, t2, hrt⟩ : ∃ r B2 t2, Tq.turn t s z os = ((r, B2), t2) := ⟨_, _, _, rfl⟩
    rw [hrt]
    rintro e w2 ⟨F3, u, rfl, hrn, hl3, hmv⟩
    have HRT : Hid (Tq.turn t s z os = ((r, B2), t2)) := hrt
    have hns := hrn
    obtain ⟨ua, uk, uc, rfl, hj1, hj2⟩ := hns
    obtain ⟨rb, hrb⟩ : ∃ z, z = w2.heap.size := ⟨_, rfl⟩
    have H2 : Hid (LT (w2.alloc (.cells #[.int .i64 r.num, .int .i64 r.zxid, .int .i64 r.err, .int .i64 r.at_, .slice ua uk uc] 73)) q t F ∧ Below w0.heap.size w0 (w2.alloc (.cells #[.int .i64 r.num, .int .i64 r.zxid, .int .i64 r.err, .int .i64 r.at_, .slice ua uk uc] 73)) ∧ Kept11 (w2.alloc (.cells #[.int .i64 r.num, .int .i64 r.zxid, .int .i64 r.err, .int .i64 r.at_, .slice ua uk uc] 73)) F a [.int .i64 0, .int .i64 0, .int .i64 0, .int .i64 0, .slice none 0 0] 73 ∧ Om12 (w2.alloc (.cells #[.int .i64 r.num, .int .i64 r.zxid, .int .i64 r.err, .int .i64 r.at_, .slice ua uk uc] 73)) F (.slice va n vc) os ∧ Rn12 w0.heap.size F (w2.alloc (.cells #[.int .i64 r.num, .int .i64 r.zxid, .int .i64 r.err, .int .i64 r.at_, .slice ua uk uc] 73)) (.slice ua uk uc) r.xs ∧ Cb (w2.alloc (.cells #[.int .i64 r.num, .int .i64 r.zxid, .int .i64 r.err, .int .i64 r.at_, .slice ua uk uc] 73)) rb [.int .i64 r.num, .int .i64 r.zxid, .int .i64 r.err, .int .i64 r.at_, .slice ua uk uc] 73) := by
      have hba := (Below.refl _ w2).alloc (Nat.le_refl _) (.cells #[.int .i64 r.num, .int .i64 r.zxid, .int .i64 r.err, .int .i64 r.at_, .slice ua uk uc] 73)
      have hb2 : Below w0.heap.size w1 w2 := hmv.below H1.out.2.2.2.size H1.out.2.1
      have hb3 : Below w0.heap.size w0 w2 := H1.out.2.2.2.trans hb2
      have hb4 := hb3.trans (hba.mono hb3.size)
      have hs0 := H0.out.2.1.size
      refine ⟨HS.out.1.keep H0.out.1 (fun k hk => hb4.block k (HS.out.1.lt H0.out.1 hk)), hb4, H0.out.2.2.1.later hb4, H0.out.2.2.2.later hb4, ?_, by rw [hrb]; exact Cb.made w2 _ _⟩
      refine ((hrn.low H1.out.2.2.2.size).keep (fun k hk _ hl => ⟨rfl, fun e => ?_⟩) : Rn12 w0.heap.size F w2 _ _).later hba
      have := HFW.out k e
      omega
    clear hrn hl3 hmv hj1 hj2 hrt H1
    unfold rpv
    go_upto_region 7 with fail
    rw [← hrb]
    clear hrb
    generalize (w2.alloc (.cells #[.int .i64 r.num, .int .i64 r.zxid, .int .i64 r.err, .int .i64 r.at_, .slice ua uk uc] 73)) = w3 at *
    cases B2 with
    | false =>
      have HM : Hid (T = ((r, false), t)) := by
        have e : T = ((r, false), t) := by rw [HT.out, Tq.many_no (by have := HN.out; omega) (by have := HN.out; omega) (by rw [HRT.out]), HRT.out]
        exact e
      have H5 : Hid (Rn12 w0.heap.size F w3 (.slice ua uk uc) r.xs ∧ LT w3 q T.2 F ∧ Moved w w3 F F ∧ Kept11 w3 F a [.int .i64 0, .int .i64 0, .int .i64 0, .int .i64 0, .slice none 0 0] 73 ∧ r = T.1.1 ∧ T.1.2 = false) := ⟨H2.out.2.2.2.2.1, by rw [HM.out]; exact H2.out.1, Moved.of_below F (H0.out.2.1.trans (H2.out.2.1.mono H0.out.2.1.size)), H2.out.2.2.1, by rw [HM.out], by rw [HM.out]⟩
      go_wp2_with (first
        | (refine wpList_load_row rfl 73 _ rfl rb rfl 73 ([.int .i64 r.num, .int .i64 r.zxid, .int .i64 r.err, .int .i64 r.at_, .slice ua uk uc] : List Value).toArray (0, 0) _ H2.out.2.2.2.2.2 Tryz.underlying73 rfl (by kernel_rfl) ?_)
        | (refine wpList_store_row rfl 73 _ _ rfl a ([.int .i64 r.num, .int .i64 r.zxid, .int .i64 r.err, .int .i64 r.at_, .slice ua uk uc] : List Value).toArray rfl rfl 73 _ H5.out.2.2.2.1.cb (by kernel_rfl) rfl (by kernel_rfl) ?_))
      have H9 := fin12 HS.out.1 H5.out.2.1 H5.out.1 HA.out.2 HA.out.1 H5.out.2.2.2.1.off H5.out.2.2.1 ([.int .i64 r.num, .int .i64 r.zxid, .int .i64 r.err, .int .i64 r.at_, .slice ua uk uc] : List Value).toArray
      (try simp only [Exit.inBlock, Exit.then])
      refine bodyPost_ret (v := .tuple #[.agg ([.int .i64 r.num, .int .i64 r.zxid, .int .i64 r.err, .int .i64 r.at_, .slice ua uk uc] : List Value).toArray, .bool false]) ?_ rfl ⟨F, .slice ua uk uc, by rw [H5.out.2.2.2.2.2, ← H5.out.2.2.2.2.1]; rfl, by rw [← H5.out.2.2.2.2.1]; exact H9.1, H9.2.1, H9.2.2⟩
      exact (results_cell_tmp11 (p := 8) (s := 9) rfl _ _ a 73 _ (0, 0) _ rfl (H5.out.2.2.2.1.cb.rowed [.int .i64 r.num, .int .i64 r.zxid, .int .i64 r.err, .int .i64 r.at_, .slice ua uk uc]) Tryz.underlying73 rfl (by kernel_rfl)).trans rfl
    | true =>
      have HM : Hid (T = ((r, true), t2)) := by
        have e : T = ((r, true), t2) := by rw [HT.out, Tq.many_yes (by have := HN.out; omega) (by have := HN.out; omega) (by rw [HRT.out]), HRT.out]
        exact e
      go_wp2_with fail
      refine (HTC.out q F w3 H2.out.1 HS.out.2.2.2.2.2.1 (HS.out.2.2.2.2.2.2.1.below (H0.out.2.1.trans (H2.out.2.1.mono H0.out.2.1.size))) H2.out.2.2.2.1).mono ?_
      rw [HRT.out]
      rintro e w5 ⟨F5, u5, rfl, hrn, hl5, hm5⟩
      have hk5 := H2.out.2.2.1.moved hm5
      have hrn := hrn.low H2.out.2.1.size
      have hl5 : LT w5 q T.2 F5 := by rw [HM.out]; exact hl5
      have hm5 : Moved w w5 F F5 := (Moved.of_below F (H0.out.2.1.trans (H2.out.2.1.mono H0.out.2.1.size))).trans hm5
      have hb5 : T.1.2 = true := by rw [HM.out]
      have hr5 : r = T.1.1 := by rw [HM.out]
      simp only [] at hrn ⊢
      clear H2
      have hns := hrn
      obtain ⟨ua, uk, uc, rfl, hj1, hj2⟩ := hns
      have H5 : Hid (Rn12 w0.heap.size F5 w5 (.slice ua uk uc) r.xs ∧ LT w5 q T.2 F5 ∧ Moved w w5 F F5 ∧ Kept11 w5 F5 a [.int .i64 0, .int .i64 0, .int .i64 0, .int .i64 0, .slice none 0 0] 73 ∧ r = T.1.1 ∧ T.1.2 = true) := ⟨hrn, hl5, hm5, hk5, hr5, hb5⟩
      clear hrn hl5 hm5 hk5 hr5 hb5 hj1 hj2
      unfold rpv
      go_wp2_with (refine wpList_store_row rfl 73 _ _ rfl a ([.int .i64 r.num, .int .i64 r.zxid, .int .i64 r.err, .int .i64 r.at_, .slice ua uk uc] : List Value).toArray rfl rfl 73 _ H5.out.2.2.2.1.cb (by kernel_rfl) rfl (by kernel_rfl) ?_)
      have H9 := fin12 HS.out.1 H5.out.2.1 H5.out.1 HA.out.2 HA.out.1 H5.out.2.2.2.1.off H5.out.2.2.1 ([.int .i64 r.num, .int .i64 r.zxid, .int .i64 r.err, .int .i64 r.at_, .slice ua uk uc] : List Value).toArray
      (try simp only [Exit.inBlock, Exit.then])
      refine bodyPost_ret (v := .tuple #[.agg ([.int .i64 r.num, .int .i64 r.zxid, .int .i64 r.err, .int .i64 r.at_, .slice ua uk uc] : List Value).toArray, .bool true]) ?_ rfl ⟨F5, .slice ua uk uc, by rw [H5.out.2.2.2.2.2, ← H5.out.2.2.2.2.1]; rfl, by rw [← H5.out.2.2.2.2.1]; exact H9.1, H9.2.1, H9.2.2⟩
      exact (results_cell_tmp11 (p := 8) (s := 9) rfl _ _ a 73 _ (0, 0) _ rfl (H5.out.2.2.2.1.cb.rowed [.int .i64 r.num, .int .i64 r.zxid, .int .i64 r.err, .int .i64 r.at_, .slice ua uk uc]) Tryz.underlying73 rfl (by kernel_rfl)).trans rfl
  · have h1' : ¬ (1 : Int) < (n : Int) := by omega
    go_wp2_with fail
    refine (HTC.out q F w0 H0.out.1 HS.out.2.2.2.2.2.1 (HS.out.2.2.2.2.2.2.1.below H0.out.2.1) H0.out.2.2.2).mono ?_
    have HM : Hid (T = Tq.turn t s z os) := by
      have e : T = Tq.turn t s z os := by rw [HT.out]; exact Tq.many_one (by have := HN.out; omega)
      exact e
    rw [← HM.out]
    rintro e w5 ⟨F5, u5, rfl, hrn, hl5, hm5⟩
    obtain ⟨r, hr5⟩ : ∃ r, r = T.1.1 := ⟨_, rfl⟩
    obtain ⟨B2, hb2⟩ : ∃ B2, B2 = T.1.2 := ⟨_, rfl⟩
    rw [← hr5] at hrn
    rw [← hr5, ← hb2]
    have hb5 := hb2.symm
    clear hb2
    have hk5 := H0.out.2.2.1.moved hm5
    have hm5 : Moved w w5 F F5 := (Moved.of_below F H0.out.2.1).trans hm5
    have hns := hrn
    obtain ⟨ua, uk, uc, rfl, hj1, hj2⟩ := hns
    have H5 : Hid (Rn12 w0.heap.size F5 w5 (.slice ua uk uc) r.xs ∧ LT w5 q T.2 F5 ∧ Moved w w5 F F5 ∧ Kept11 w5 F5 a [.int .i64 0, .int .i64 0, .int .i64 0, .int .i64 0, .slice none 0 0] 73 ∧ r = T.1.1 ∧ T.1.2 = B2) := ⟨hrn, hl5, hm5, hk5, hr5, hb5⟩
    clear hrn hl5 hm5 hk5 hr5 hb5 hj1 hj2
    unfold rpv
    go_wp2_with (refine wpList_store_row rfl 73 _ _ rfl a ([.int .i64 r.num, .int .i64 r.zxid, .int .i64 r.err, .int .i64 r.at_, .slice ua uk uc] : List Value).toArray rfl rfl 73 _ H5.out.2.2.2.1.cb (by kernel_rfl) rfl (by kernel_rfl) ?_)
    have H9 := fin12 HS.out.1 H5.out.2.1 H5.out.1 HA.out.2 HA.out.1 H5.out.2.2.2.1.off H5.out.2.2.1 ([.int .i64 r.num, .int .i64 r.zxid, .int .i64 r.err, .int .i64 r.at_, .slice ua uk uc] : List Value).toArray
    (try simp only [Exit.inBlock, Exit.then])
    refine bodyPost_ret (v := .tuple #[.agg ([.int .i64 r.num, .int .i64 r.zxid, .int .i64 r.err, .int .i64 r.at_, .slice ua uk uc] : List Value).toArray, .bool B2]) ?_ rfl ⟨F5, .slice ua uk uc, by rw [H5.out.2.2.2.2.2, ← H5.out.2.2.2.2.1]; rfl, by rw [← H5.out.2.2.2.2.1]; exact H9.1, H9.2.1, H9.2.2⟩
    exact (results_cell_tmp11 (p := 8) (s := 9) rfl _ _ a 73 _ (0, 0) _ rfl (H5.out.2.2.2.1.cb.rowed [.int .i64 r.num, .int .i64 r.zxid, .int .i64 r.err, .int .i64 r.at_, .slice ua uk uc]) Tryz.underlying73 rfl (by kernel_rfl)).trans rfl
end Go.Proofs.YtfcbdjjbchcpjaaGreatDoor
