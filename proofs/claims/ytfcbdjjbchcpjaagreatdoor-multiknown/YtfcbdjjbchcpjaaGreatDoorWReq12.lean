/- What multi's Request does. -/
import Derived.Test.YtfcbdjjbchcpjaaGreatDoorWMany12
import Derived.Test.YtfcbdjjbchcpjaaGreatDoorWMay12
namespace Go.Proofs.YtfcbdjjbchcpjaaGreatDoor.Tq
/-- Request. -/
def ask (t : Tr) (s n z : Int) (os : List O) : Rp × Tr :=
  if Oq.may s n os ≠ 0 then (Rq.fail n (Oq.may s n os) (-1) 0, t) else ({ (many t s z os).1.1 with num := n, zxid := z }, (many t s z os).2)
end Go.Proofs.YtfcbdjjbchcpjaaGreatDoor.Tq
namespace Go.Proofs.YtfcbdjjbchcpjaaGreatDoor
open Go.RowKit

set_option maxRecDepth 20000 in
set_option maxHeartbeats 8000000 in
theorem ask_any12 {LT : Rep11} (S : Specs11 LT) (D : SpecD12 LT) (q : Nat) (t : Tq.Tr) (F : Nat → Prop) (s n z : Int) (v : Value) (os : List O) (mm : Nat) (w : World) (hL : LT w q t F) (hf : Fine11 t) (hk : Tq.Few t mm) (hm : mm ≤ 883) (h6 : ∀ k, F k → 6 ≤ k) (hS : Pa.Std w) (hO : Om12 w F v os) (hok : ∀ o ∈ os, OFit o) (hn : os.length ≤ maxLen) :
    Calls Tryz.prog 42 #[dptr q, .agg #[.int .i64 s, .int .i64 n, v], .int .i64 z] w fun e w' => ∃ F' u, e = .returned (rpv (Tq.ask t s n z os).1 u) ∧ Rn12 w.heap.size F' w' u (Tq.ask t s n z os).1.xs ∧ LT w' q (Tq.ask t s n z os).2 F' ∧ Moved w w' F F' := by
  obtain ⟨T, hT⟩ : ∃ T, T = Tq.ask t s n z os := ⟨_, rfl⟩
  rw [← hT]
  have HT : Hid (T = Tq.ask t s n z os) := hT
  obtain ⟨M, hM⟩ : ∃ M, M = Oq.may s n os := ⟨_, rfl⟩
  have HM : Hid (M = Oq.may s n os) := hM
  have HS : Hid (Specs11 LT ∧ SpecD12 LT ∧ Fine11 t ∧ Tq.Few t mm ∧ mm ≤ 883 ∧ (∀ k, F k → 6 ≤ k) ∧ Pa.Std w ∧ (∀ o ∈ os, OFit o) ∧ os.length ≤ maxLen) := ⟨S, D, hf, hk, hm, h6, hS, hok, hn⟩
  have hOl := hO.ol
  obtain ⟨va, m, vc, rfl, hnn, hjj⟩ := hOl
  obtain ⟨qr, hqr⟩ : ∃ a, a = w.heap.size := ⟨_, rfl⟩
  obtain ⟨qa, hqa⟩ : ∃ a, a = w.heap.size + 1 := ⟨_, rfl⟩
  have H0 : Hid (LT ((w.alloc (.cells #[.int .i64 s, .int .i64 n, .slice va m vc] 79)).alloc (.cells #[.int .i64 0, .int .i64 0, .int .i64 0, .int .i64 0, .slice none 0 0] 73)) q t F ∧ Below w.heap.size w ((w.alloc (.cells #[.int .i64 s, .int .i64 n, .slice va m vc] 79)).alloc (.cells #[.int .i64 0, .int .i64 0, .int .i64 0, .int .i64 0, .slice none 0 0] 73)) ∧ Kept11 ((w.alloc (.cells #[.int .i64 s, .int .i64 n, .slice va m vc] 79)).alloc (.cells #[.int .i64 0, .int .i64 0, .int .i64 0, .int .i64 0, .slice none 0 0] 73)) F qa [.int .i64 0, .int .i64 0, .int .i64 0, .int .i64 0, .slice none 0 0] 73 ∧ Om12 ((w.alloc (.cells #[.int .i64 s, .int .i64 n, .slice va m vc] 79)).alloc (.cells #[.int .i64 0, .int .i64 0, .int .i64 0, .int .i64 0, .slice none 0 0] 73)) F (.slice va m vc) os ∧ Kept11 ((w.alloc (.cells #[.int .i64 s, .int .i64 n, .slice va m vc] 79)).alloc (.cells #[.int .i64 0, .int .i64 0, .int .i64 0, .int .i64 0, .slice none 0 0] 73)) F qr [.int .i64 s, .int .i64 n, .slice va m vc] 79) := by
    have h1 := (Below.refl _ w).alloc (Nat.le_refl _) (.cells #[.int .i64 s, .int .i64 n, .slice va m vc] 79)
    have h2 := (Below.refl _ (w.alloc (.cells #[.int .i64 s, .int .i64 n, .slice va m vc] 79))).alloc (Nat.le_refl _) (.cells #[.int .i64 0, .int .i64 0, .int .i64 0, .int .i64 0, .slice none 0 0] 73)
    have h3 := h1.trans (h2.mono h1.size)
    have hs1 : (w.alloc (.cells #[.int .i64 s, .int .i64 n, .slice va m vc] 79)).heap.size = w.heap.size + 1 := World.size_alloc _ _
    have hk := Kept11.made (w.alloc (.cells #[.int .i64 s, .int .i64 n, .slice va m vc] 79)) F (fun k hk => by have := S.lt hL hk; omega) [.int .i64 0, .int .i64 0, .int .i64 0, .int .i64 0, .slice none 0 0] 73
    rw [hs1] at hk
    refine ⟨S.keep hL (fun k hk => h3.block k (S.lt hL hk)), h3, by rw [hqa]; exact hk, hO.later h3, ?_⟩
    rw [hqr]
    exact (Kept11.made w F (fun k hk => S.lt hL hk) [.int .i64 s, .int .i64 n, .slice va m vc] 79).later h2
  have HA : Hid (w.heap.size ≤ qa ∧ qa < ((w.alloc (.cells #[.int .i64 s, .int .i64 n, .slice va m vc] 79)).alloc (.cells #[.int .i64 0, .int .i64 0, .int .i64 0, .int .i64 0, .slice none 0 0] 73)).heap.size) := ⟨by omega, by rw [World.size_alloc, World.size_alloc]; omega⟩
  clear S D hf hk hm h6 hS hok hjj hnn hO hL hT hn hM
  unfold dptr
  go_enter Tryz.func42, Tryz.ntmps42
  go_upto_region 1 with fail
  rw [← hqa, ← hqr]
  clear hqa hqr
  generalize ((w.alloc (.cells #[.int .i64 s, .int .i64 n, .slice va m vc] 79)).alloc (.cells #[.int .i64 0, .int .i64 0, .int .i64 0, .int .i64 0, .slice none 0 0] 73)) = w0 at *
  have c0 : w0.cell? ⟨qr, 0, none⟩ = some (.int .i64 s) := (H0.out.2.2.2.2.cb.cell 0).trans rfl
  have c1 : w0.cell? ⟨qr, 1, none⟩ = some (.int .i64 n) := (H0.out.2.2.2.2.cb.cell 1).trans rfl
  have c2 : w0.cell? ⟨qr, 2, none⟩ = some (.slice va m vc) := (H0.out.2.2.2.2.cb.cell 2).trans rfl
  go_wp2_with fail
  clear c0 c1 c2
  refine (may_spec s n (.slice va m vc) os w0 (HS.out.2.2.2.2.2.2.1.below H0.out.2.1) H0.out.2.2.2.1.ol HS.out.2.2.2.2.2.2.2.2 HS.out.2.2.2.2.2.2.2.1).mono ?_
  rw [← HM.out]
  rintro e w1 ⟨rfl, hb1⟩
  have H1 : Hid (LT w1 q t F ∧ Below w.heap.size w w1 ∧ Kept11 w1 F qa [.int .i64 0, .int .i64 0, .int .i64 0, .int .i64 0, .slice none 0 0] 73 ∧ Om12 w1 F (.slice va m vc) os ∧ Kept11 w1 F qr [.int .i64 s, .int .i64 n, .slice va m vc] 79 ∧ qa < w1.heap.size) := ⟨HS.out.1.keep H0.out.1 (fun k hk => hb1.block k (HS.out.1.lt H0.out.1 hk)), H0.out.2.1.trans (hb1.mono H0.out.2.1.size), H0.out.2.2.1.later hb1, H0.out.2.2.2.1.later hb1, H0.out.2.2.2.2.later hb1, Nat.lt_of_lt_of_le HA.out.2 hb1.size⟩
  clear hb1 H0
  have c0 : w1.cell? ⟨qr, 0, none⟩ = some (.int .i64 s) := (H1.out.2.2.2.2.1.cb.cell 0).trans rfl
  have c1 : w1.cell? ⟨qr, 1, none⟩ = some (.int .i64 n) := (H1.out.2.2.2.2.1.cb.cell 1).trans rfl
  have c2 : w1.cell? ⟨qr, 2, none⟩ = some (.slice va m vc) := (H1.out.2.2.2.2.1.cb.cell 2).trans rfl
  by_cases hz : M = 0
  · have hzb : (M != 0) = false := by simp [hz]
    have HZ : Hid (T = ({ (Tq.many t s z os).1.1 with num := n, zxid := z }, (Tq.many t s z os).2)) := by
      have e : T = ({ (Tq.many t s z os).1.1 with num := n, zxid := z }, (Tq.many t s z os).2) := by rw [HT.out]; unfold Tq.ask; rw [← HM.out, if_neg (by simp [hz])]
      exact e
    clear hz
    go_wp2_with fail
    clear c0 c1 c2 hzb
    refine (many_any12 HS.out.1 HS.out.2.1 q t F s z (.slice va m vc) os mm w1 H1.out.1 HS.out.2.2.1 HS.out.2.2.2.1 HS.out.2.2.2.2.1 HS.out.2.2.2.2.2.1 (HS.out.2.2.2.2.2.2.1.below H1.out.2.1) H1.out.2.2.2.1 HS.out.2.2.2.2.2.2.2.1 (by have h := HS.out.2.2.2.2.2.2.2.2; unfold maxLen at h; omega)).mono ?_
    obtain ⟨r, B, t2, hrt⟩ : ∃ r B t2, Tq.many t s z os = ((r, B), t2) := ⟨_, _, _, rfl⟩
    have HZ2 : Hid (T = ({ r with num := n, zxid := z }, t2)) := by
      have e := HZ.out
      rw [hrt] at e
      exact e
    rw [hrt]
    clear hrt
    rintro e w2 ⟨F2, u, rfl, hrn, hl2, hmv⟩
    have hns := hrn
    obtain ⟨ua, uk, uc, rfl, hj1, hj2⟩ := hns
    obtain ⟨qb, hqb⟩ : ∃ z, z = w2.heap.size := ⟨_, rfl⟩
    have H3 : Hid (Cb (w2.alloc (.cells #[.int .i64 r.num, .int .i64 r.zxid, .int .i64 r.err, .int .i64 r.at_, .slice ua uk uc] 73)) qb [.int .i64 r.num, .int .i64 r.zxid, .int .i64 r.err, .int .i64 r.at_, .slice ua uk uc] 73 ∧ Kept11 (w2.alloc (.cells #[.int .i64 r.num, .int .i64 r.zxid, .int .i64 r.err, .int .i64 r.at_, .slice ua uk uc] 73)) F2 qr [.int .i64 s, .int .i64 n, .slice va m vc] 79) := by
      have hba := (Below.refl _ w2).alloc (Nat.le_refl _) (.cells #[.int .i64 r.num, .int .i64 r.zxid, .int .i64 r.err, .int .i64 r.at_, .slice ua uk uc] 73)
      exact ⟨by rw [hqb]; exact Cb.made w2 _ _, (H1.out.2.2.2.2.1.moved hmv).later hba⟩
    have H4 : Hid (LT (((w2.alloc (.cells #[.int .i64 r.num, .int .i64 r.zxid, .int .i64 r.err, .int .i64 r.at_, .slice ua uk uc] 73)).setCell ⟨qb, 0, none⟩ (.int .i64 n)).setCell ⟨qb, 1, none⟩ (.int .i64 z)) q t2 F2 ∧ Rn12 w1.heap.size F2 (((w2.alloc (.cells #[.int .i64 r.num, .int .i64 r.zxid, .int .i64 r.err, .int .i64 r.at_, .slice ua uk uc] 73)).setCell ⟨qb, 0, none⟩ (.int .i64 n)).setCell ⟨qb, 1, none⟩ (.int .i64 z)) (.slice ua uk uc) r.xs ∧ Moved w (((w2.alloc (.cells #[.int .i64 r.num, .int .i64 r.zxid, .int .i64 r.err, .int .i64 r.at_, .slice ua uk uc] 73)).setCell ⟨qb, 0, none⟩ (.int .i64 n)).setCell ⟨qb, 1, none⟩ (.int .i64 z)) F F2 ∧ Kept11 (((w2.alloc (.cells #[.int .i64 r.num, .int .i64 r.zxid, .int .i64 r.err, .int .i64 r.at_, .slice ua uk uc] 73)).setCell ⟨qb, 0, none⟩ (.int .i64 n)).setCell ⟨qb, 1, none⟩ (.int .i64 z)) F2 qa [.int .i64 0, .int .i64 0, .int .i64 0, .int .i64 0, .slice none 0 0] 73 ∧ Cb (((w2.alloc (.cells #[.int .i64 r.num, .int .i64 r.zxid, .int .i64 r.err, .int .i64 r.at_, .slice ua uk uc] 73)).setCell ⟨qb, 0, none⟩ (.int .i64 n)).setCell ⟨qb, 1, none⟩ (.int .i64 z)) qb [.int .i64 n, .int .i64 z, .int .i64 r.err, .int .i64 r.at_, .slice ua uk uc] 73) := by
      have hba := (Below.refl _ w2).alloc (Nat.le_refl _) (.cells #[.int .i64 r.num, .int .i64 r.zxid, .int .i64 r.err, .int .i64 r.at_, .slice ua uk uc] 73)
      have g1 := grownBy_setCell (w2.alloc (.cells #[.int .i64 r.num, .int .i64 r.zxid, .int .i64 r.err, .int .i64 r.at_, .slice ua uk uc] 73)) ⟨qb, 0, none⟩ (.int .i64 n)
      have b1 := hba.grown g1 hba.size (fun k hk => by simp at hk; omega)
      have g2 := grownBy_setCell ((w2.alloc (.cells #[.int .i64 r.num, .int .i64 r.zxid, .int .i64 r.err, .int .i64 r.at_, .slice ua uk uc] 73)).setCell ⟨qb, 0, none⟩ (.int .i64 n)) ⟨qb, 1, none⟩ (.int .i64 z)
      have b2 := b1.grown g2 b1.size (fun k hk => by simp at hk; omega)
      exact ⟨HS.out.1.keep hl2 (fun k hk => b2.block k (HS.out.1.lt hl2 hk)), hrn.later b2, ((Moved.of_below F H1.out.2.1).trans hmv).trans (Moved.of_below F2 b2), (H1.out.2.2.1.moved hmv).later b2, (H3.out.1.set 0 (.int .i64 n)).set 1 (.int .i64 z)⟩
    have HQ1 : Hid (qa < w1.heap.size) := H1.out.2.2.2.2.2
    clear hrn hl2 hmv hj1 hj2 H1
    unfold rpv
    go_upto_region 5 with fail
    rw [← hqb]
    have d0 : (w2.alloc (.cells #[.int .i64 r.num, .int .i64 r.zxid, .int .i64 r.err, .int .i64 r.at_, .slice ua uk uc] 73)).cell? ⟨qb, 0, none⟩ = some (.int .i64 r.num) := (H3.out.1.cell 0).trans rfl
    have d1 : (w2.alloc (.cells #[.int .i64 r.num, .int .i64 r.zxid, .int .i64 r.err, .int .i64 r.at_, .slice ua uk uc] 73)).cell? ⟨qb, 1, none⟩ = some (.int .i64 r.zxid) := (H3.out.1.cell 1).trans rfl
    have f0 := H3.out.1.free 0
    have f1 := H3.out.1.free 1
    have e1 : (w2.alloc (.cells #[.int .i64 r.num, .int .i64 r.zxid, .int .i64 r.err, .int .i64 r.at_, .slice ua uk uc] 73)).cell? ⟨qr, 1, none⟩ = some (.int .i64 n) := (H3.out.2.cb.cell 1).trans rfl
    clear hqb
    generalize (w2.alloc (.cells #[.int .i64 r.num, .int .i64 r.zxid, .int .i64 r.err, .int .i64 r.at_, .slice ua uk uc] 73)) = w3 at *
    go_upto_region 6 with fail
    clear d0 d1 f0 f1 e1 H3
    generalize (w3.setCell ⟨qb, 0, none⟩ (.int .i64 n)).setCell ⟨qb, 1, none⟩ (.int .i64 z) = w4 at *
    go_wp2_with (first
      | (refine wpList_load_row rfl 73 _ rfl qb rfl 73 ([.int .i64 n, .int .i64 z, .int .i64 r.err, .int .i64 r.at_, .slice ua uk uc] : List Value).toArray (0, 0) _ H4.out.2.2.2.2 Tryz.underlying73 rfl (by kernel_rfl) ?_)
      | (refine wpList_store_row rfl 73 _ _ rfl qa ([.int .i64 n, .int .i64 z, .int .i64 r.err, .int .i64 r.at_, .slice ua uk uc] : List Value).toArray rfl rfl 73 _ H4.out.2.2.2.1.cb (by kernel_rfl) rfl (by kernel_rfl) ?_))
    have H9 := fin12 HS.out.1 H4.out.1 H4.out.2.1 HQ1.out HA.out.1 H4.out.2.2.2.1.off H4.out.2.2.1 ([.int .i64 n, .int .i64 z, .int .i64 r.err, .int .i64 r.at_, .slice ua uk uc] : List Value).toArray
    refine bodyPost_ret (v := .agg ([.int .i64 n, .int .i64 z, .int .i64 r.err, .int .i64 r.at_, .slice ua uk uc] : List Value).toArray) ?_ rfl ⟨F2, .slice ua uk uc, by rw [HZ2.out]; rfl, by rw [HZ2.out]; exact H9.1, by rw [HZ2.out]; exact H9.2.1, H9.2.2⟩
    exact results_cell_row rfl _ _ qa 73 _ (0, 0) _ rfl (H4.out.2.2.2.1.cb.rowed ([.int .i64 n, .int .i64 z, .int .i64 r.err, .int .i64 r.at_, .slice ua uk uc] : List Value)) Tryz.underlying73 rfl (by kernel_rfl)
  · have hzb : (M != 0) = true := by simp [hz]
    have HZ : Hid (T = (Rq.fail n M (-1) 0, t)) := by
      have e : T = (Rq.fail n M (-1) 0, t) := by rw [HT.out]; unfold Tq.ask; rw [← HM.out, if_pos hz]
      exact e
    clear hz
    go_wp2_with fail
    clear c0 c1 c2 hzb
    refine (fail_any12 n M (-1) 0 w1 (by decide) (by decide)).mono ?_
    rintro e w5 ⟨u, rfl, ⟨hrl, hnw⟩, hb⟩
    obtain ⟨r, hr0⟩ : ∃ r, r = Rq.fail n M (-1) 0 := ⟨_, rfl⟩
    rw [← hr0] at hrl ⊢
    have HZ2 : Hid (T = (r, t)) := by rw [hr0]; exact HZ.out
    have hrn : Rn12 w1.heap.size F w5 u r.xs := Rn12.bare hrl hnw (by rw [hr0]; exact fail_bare _ _ _ _) (fun k hk => HS.out.1.lt H1.out.1 hk)
    have hns := hrn
    obtain ⟨ua, uk, uc, rfl, hj1, hj2⟩ := hns
    have H4 : Hid (LT w5 q t F ∧ Rn12 w1.heap.size F w5 (.slice ua uk uc) r.xs ∧ Moved w w5 F F ∧ Kept11 w5 F qa [.int .i64 0, .int .i64 0, .int .i64 0, .int .i64 0, .slice none 0 0] 73) := ⟨HS.out.1.keep H1.out.1 (fun k hk => hb.block k (HS.out.1.lt H1.out.1 hk)), hrn, Moved.of_below F (H1.out.2.1.trans (hb.mono H1.out.2.1.size)), H1.out.2.2.1.later hb⟩
    have HQ1 : Hid (qa < w1.heap.size) := H1.out.2.2.2.2.2
    clear hrl hnw hb hrn hj1 hj2 hr0 H1 HZ
    unfold rpv
    go_wp2_with (refine wpList_store_row rfl 73 _ _ rfl qa ([.int .i64 r.num, .int .i64 r.zxid, .int .i64 r.err, .int .i64 r.at_, .slice ua uk uc] : List Value).toArray rfl rfl 73 _ H4.out.2.2.2.cb (by kernel_rfl) rfl (by kernel_rfl) ?_)
    have H9 := fin12 HS.out.1 H4.out.1 H4.out.2.1 HQ1.out HA.out.1 H4.out.2.2.2.off H4.out.2.2.1 ([.int .i64 r.num, .int .i64 r.zxid, .int .i64 r.err, .int .i64 r.at_, .slice ua uk uc] : List Value).toArray
    refine bodyPost_ret (v := .agg ([.int .i64 r.num, .int .i64 r.zxid, .int .i64 r.err, .int .i64 r.at_, .slice ua uk uc] : List Value).toArray) ?_ rfl ⟨F, .slice ua uk uc, by rw [HZ2.out]; rfl, by rw [HZ2.out]; exact H9.1, by rw [HZ2.out]; exact H9.2.1, H9.2.2⟩
    exact results_cell_row rfl _ _ qa 73 _ (0, 0) _ rfl (H4.out.2.2.2.cb.rowed ([.int .i64 r.num, .int .i64 r.zxid, .int .i64 r.err, .int .i64 r.at_, .slice ua uk uc] : List Value)) Tryz.underlying73 rfl (by kernel_rfl)
end Go.Proofs.YtfcbdjjbchcpjaaGreatDoor
