import Derived.Test.YtboejbjobjhajaaGreatDoorWDe18
import Derived.Lib.SlKeysI
namespace Go.Proofs.YtboejbjobjhajaaGreatDoor
open Go.RowKit
section
variable {LT : Rep11} {LS : Rep17} {w w' w0 : World} {q : Nat} {s s' : Pt.St} {F F' F0 : Nat → Prop}
theorem LPt18.zx (S : Base18 LT LS) (h : LPt18 LT LS w q s F) (z : Int) : LPt18 LT LS (w.setCell ⟨q, 2, none⟩ (.int .i64 z)) q { s with z := z } F ∧ Moved w (w.setCell ⟨q, 2, none⟩ (.int .i64 z)) F F := by
  obtain ⟨fw, fd, fs, qt, ql, a, b, c, Ft, Fl, G, V, h, h1, h2, h3⟩ := h
  obtain ⟨g1, g2, g3⟩ := h.cell (z' := z) (wt' := (Pt.wanted s : Int)) S.t S.l 2 (.int .i64 z) rfl
  obtain ⟨col, hc⟩ := h.col
  exact ⟨⟨fw, fd, fs, qt, ql, a, b, c, Ft, Fl, G, V, g1, h1.keep (fun k hk _ => g3 k fun e => by
    have e1 := hc.g k hk
    rw [e, hc.q] at e1
    cases e1), h2, h3⟩, g2⟩
theorem room_ask18 (t : Tq.Tr) (z n x : Int) (os : List O) : (Tq.ask t z n x os).2.room = t.room := by
  unfold Tq.ask
  split
  · rfl
  · exact Tq.room_many18 _ _ _ _
theorem LPt18.ask (S : Base18 LT LS) (h : LPt18 LT LS w q s F) (hf : Tq.Well s.t) : ∃ qt, w.cell? ⟨q, 0, none⟩ = some (dptr qt) ∧ ∀ (u : World) (z n x : Int) (v : Value) (os : List O), Below w.heap.size w u → (∀ k, F k → 6 ≤ k) → Pa.Std u → Om12 u F v os → (∀ o ∈ os, OFit o) → os.length ≤ maxLen →
    Calls Tryz.prog 57 #[dptr qt, .agg #[.int .i64 z, .int .i64 n, v], .int .i64 x] u fun e w' => ∃ F' ru, e = .returned (rpv (Tq.ask s.t z n x os).1 ru) ∧ Rn12 u.heap.size F' w' ru (Tq.ask s.t z n x os).1.xs ∧ LPt18 LT LS w' q { s with t := (Tq.ask s.t z n x os).2 } F' ∧ Moved u w' F F' ∧ w'.heap[q]? = u.heap[q]? := by
  obtain ⟨fw, fd, fs, qt, ql, a, b, c, Ft, Fl, G, V, h, h1, h2, h3⟩ := h
  refine ⟨qt, h.c0, fun u z n x v os hb h6 hS hv hok hl => ?_⟩
  have hu := h.below S.t S.l hb
  obtain ⟨col, hc⟩ := hu.col
  refine (ask_any12 S.t S.d qt s.t Ft z n x v os 500 u hu.tr hf.fine hf.few (by decide) (fun k hk => h6 k (hc.ft hk)) hS ⟨hv.ol, fun hne k hk e => hv.off hne k hk (hc.ft e)⟩ hok hl).mono ?_
  rintro e w2 ⟨Ft2, ru, rfl, hrn, hl2, hmv⟩
  obtain ⟨F2, g1, g2, g3, _, g5⟩ := hu.tree S.t S.l hl2 hmv
  have hk : ∀ k, F k → col k ≠ 5 → w2.heap[k]? = u.heap[k]? := fun k hk hn => g3 k hk fun e => hn (hc.t k e)
  refine ⟨F2, ru, rfl, hrn.share g5 (fun k hk => hu.flt k hk), ⟨fw, fd, fs, qt, ql, a, b, c, Ft2, Fl, G, V, ?_, h1.keep fun k hg hl => ?_, h2, h3⟩, g2, hk q hc.fq (by rw [hc.q]; decide)⟩
  · show PtU18 LT LS w2 q (Tq.ask s.t z n x os).2.room _ _ _ _ _ _ _ _ _ _ _ _ _ _ _ _
    rw [room_ask18]
    exact g1
  · rw [hk k (hc.fg hg) (by rw [hc.g k hg]; decide), hb.block k hl]
structure Lo18 (LT : Rep11) (LS : Rep17) (w0 w : World) (q : Nat) (s : Pt.St) (F0 F : Nat → Prop) (b3 b4 : Nat) (z n : Int) (v : Value) (os : List O) : Prop where
  ld : LPt18 LT LS w q s F
  mv : Moved w0 w F0 F
  box : Kept11 w F b3 [.int .i64 z, .int .i64 n, v] 41
  ans : Kept11 w F b4 [.int .i64 0, .int .i64 0, .int .i64 0, .int .i64 0, .slice none 0 0] 37
  hi : w0.heap.size ≤ b4
  arg : Om12 w F v os
  lo : ∀ k, F k → 6 ≤ k
  std : Pa.Std w
theorem Lo18.moved {b3 b4 : Nat} {z n : Int} {v : Value} {os : List O} (h : Lo18 LT LS w0 w q s F0 F b3 b4 z n v os) (hl : LPt18 LT LS w' q s' F') (hm : Moved w w' F F') : Lo18 LT LS w0 w' q s' F0 F' b3 b4 z n v os :=
  ⟨hl, h.mv.trans hm, h.box.moved hm, h.ans.moved hm, h.hi, h.arg.moved hm, fun k hk => by
    rcases hm.sub k hk with e | e
    · exact h.lo k e
    · have := h.std.size
      omega, h.std.movedP hm h.lo⟩
theorem Lo18.later (S : Base18 LT LS) {b3 b4 : Nat} {z n : Int} {v : Value} {os : List O} (h : Lo18 LT LS w0 w q s F0 F b3 b4 z n v os) (hb : Below w.heap.size w w') : Lo18 LT LS w0 w' q s F0 F b3 b4 z n v os := h.moved (h.ld.below S hb) (Moved.of_below F hb)
theorem Lo18.fin (S : Base18 LT LS) {b3 b4 B : Nat} {z n : Int} {v u : Value} {os : List O} {xs : List X} (h : Lo18 LT LS w0 w q s F0 F b3 b4 z n v os) (hr : Rn12 B F w u xs) (hB : b4 < B) (ds : Array Value) : Rn12 w0.heap.size F (w.setRow b4 ds) u xs ∧ LPt18 LT LS (w.setRow b4 ds) q s F ∧ Moved w0 (w.setRow b4 ds) F0 F := by
  have hhi := h.hi
  have hg := grown_setRow w b4 ds
  refine ⟨(hr.keep fun k hk hn _ => ⟨setRow_other w b4 k ds (by omega), hn⟩).low (by omega), lpt_keep18 S.t S.l h.ld fun k hk => setRow_other w b4 k ds (fun e => h.ans.off (e ▸ hk)), ⟨hg.os.trans h.mv.os, hg.tape.trans h.mv.tape, hg.output.trans h.mv.output, Nat.le_trans h.mv.size hg.size, fun k hk hF => (setRow_other w b4 k ds (by omega)).trans (h.mv.block k hk hF), h.mv.sub⟩⟩
def Sl18 (q qt b3 : Nat) (x z n : Int) (v : Value) (w : World) : Prop := w.cell? ⟨q, 0, none⟩ = some (dptr qt) ∧ w.cell? ⟨q, 2, none⟩ = some (.int .i64 x) ∧ w.cell? ⟨b3, 0, none⟩ = some (.int .i64 z) ∧ w.cell? ⟨b3, 1, none⟩ = some (.int .i64 n) ∧ w.cell? ⟨b3, 2, none⟩ = some v
set_option maxRecDepth 20000 in
set_option maxHeartbeats 16000000 in
theorem loc_any18 (S : Base18 LT LS) {mm : Nat} (h : LPt18 LT LS w q s F) (hf : Pt.Fit mm s) (hm : mm ≤ 1000) (h6 : ∀ k, F k → 6 ≤ k) (hS : Pa.Std w) (z n : Int) (v : Value) (os : List O) (hv : Om12 w F v os) (hok : ∀ o ∈ os, OFit o) (hl : os.length ≤ maxLen) (hz : I64 z) :
    Calls Tryz.prog 16 #[dptr q, .agg #[.int .i64 z, .int .i64 n, v]] w fun e w' => ∃ F' u, e = .returned (rpv (Pt.local_ s z n os).1 u) ∧ Rn12 w.heap.size F' w' u (Pt.local_ s z n os).1.xs ∧ LPt18 LT LS w' q (Pt.local_ s z n os).2 F' ∧ Moved w w' F F' := by
  obtain ⟨R, hR⟩ : ∃ R, R = Pt.local_ s z n os := ⟨_, rfl⟩
  rw [← hR]
  have HR : Hid (R = Pt.local_ s z n os) := hR
  have hOl := hv.ol
  obtain ⟨va, m, vc, rfl, hN, _⟩ := hOl
  obtain ⟨E, hE⟩ : ∃ E, E = Oq.may z n os := ⟨_, rfl⟩
  have H0 : Hid (Base18 LT LS ∧ Pt.Fit mm s ∧ mm ≤ 1000 ∧ (∀ o ∈ os, OFit o) ∧ os.length ≤ maxLen ∧ I64 z ∧ E = Oq.may z n os ∧ m = os.length) := ⟨S, hf, hm, hok, hl, hz, hE, hN⟩
  obtain ⟨b3, hb3⟩ : ∃ a, a = w.heap.size := ⟨_, rfl⟩
  obtain ⟨b4, hb4⟩ : ∃ a, a = b3 + 1 := ⟨_, rfl⟩
  have H1 : Hid (Lo18 LT LS w ((w.alloc (.cells #[.int .i64 z, .int .i64 n, .slice va m vc] 41)).alloc (.cells #[.int .i64 0, .int .i64 0, .int .i64 0, .int .i64 0, .slice none 0 0] 37)) q s F F b3 b4 z n (.slice va m vc) os ∧ b4 < ((w.alloc (.cells #[.int .i64 z, .int .i64 n, .slice va m vc] 41)).alloc (.cells #[.int .i64 0, .int .i64 0, .int .i64 0, .int .i64 0, .slice none 0 0] 37)).heap.size) := by
    have h1 := (Below.refl w.heap.size w).alloc (Nat.le_refl _) (.cells #[.int .i64 z, .int .i64 n, .slice va m vc] 41)
    have h2 := (Below.refl (w.alloc (.cells #[.int .i64 z, .int .i64 n, .slice va m vc] 41)).heap.size (w.alloc (.cells #[.int .i64 z, .int .i64 n, .slice va m vc] 41))).alloc (Nat.le_refl _) (.cells #[.int .i64 0, .int .i64 0, .int .i64 0, .int .i64 0, .slice none 0 0] 37)
    have h3 := h1.trans (h2.mono h1.size)
    have hs1 : (w.alloc (.cells #[.int .i64 z, .int .i64 n, .slice va m vc] 41)).heap.size = b4 := by rw [World.size_alloc, hb4, hb3]
    have k2 := Kept11.made (w.alloc (.cells #[.int .i64 z, .int .i64 n, .slice va m vc] 41)) F (fun k hk => by have := h.lt hk; omega) [.int .i64 0, .int .i64 0, .int .i64 0, .int .i64 0, .slice none 0 0] 37
    rw [hs1] at k2
    exact ⟨⟨h.below S h3, Moved.of_below F h3, by rw [hb3]; exact (Kept11.made w F (fun k hk => h.lt hk) [.int .i64 z, .int .i64 n, .slice va m vc] 41).later h2, k2, by omega, hv.later h3, h6, hS.below h3⟩, by rw [World.size_alloc]; omega⟩
  clear S h hf hm h6 hS hv hok hl hz hR hE hN
  unfold dptr
  go_enter Tryz.func16, Tryz.ntmps16
  go_upto_region 1 with fail
  rw [← hb3, ← hb4]
  clear hb3 hb4
  generalize ((w.alloc (.cells #[.int .i64 z, .int .i64 n, .slice va m vc] 41)).alloc (.cells #[.int .i64 0, .int .i64 0, .int .i64 0, .int .i64 0, .slice none 0 0] 37)) = w1 at *
  have c0 : w1.cell? ⟨b3, 0, none⟩ = some (.int .i64 z) := H1.out.1.box.cb.cell 0
  have c1 : w1.cell? ⟨b3, 1, none⟩ = some (.int .i64 n) := H1.out.1.box.cb.cell 1
  have c2 : w1.cell? ⟨b3, 2, none⟩ = some (.slice va m vc) := H1.out.1.box.cb.cell 2
  go_wp2_with fail
  clear c0 c1 c2
  refine (may_spec z n (.slice va m vc) os w1 H1.out.1.std H1.out.1.arg.ol H0.out.2.2.2.2.1 H0.out.2.2.2.1).mono ?_
  rw [← H0.out.2.2.2.2.2.2.1]
  rintro e w2 ⟨rfl, hb⟩
  have H2 : Hid (Lo18 LT LS w w2 q s F F b3 b4 z n (.slice va m vc) os ∧ b4 < w2.heap.size) := ⟨H1.out.1.later H0.out.1 hb, Nat.lt_of_lt_of_le H1.out.2 hb.size⟩
  clear hb H1
  by_cases hE0 : E = 0
  case neg =>
    have HT : Hid (R = (Rq.fail n E (-1) 0, s)) := (show R = _ by rw [HR.out]; unfold Pt.local_; rw [← H0.out.2.2.2.2.2.2.1, if_pos hE0])
    have hEb : (E != 0) = true := by simp [hE0]
    have c1 : w2.cell? ⟨b3, 1, none⟩ = some (.int .i64 n) := H2.out.1.box.cb.cell 1
    clear hE0
    go_wp2_with fail
    refine (fail_any12 n E (-1) 0 w2 (by decide) (by decide)).mono ?_
    rintro e w5 ⟨u, rfl, ⟨hrl, hnw⟩, hb⟩
    obtain ⟨r, hr0⟩ : ∃ r, r = Rq.fail n E (-1) 0 := ⟨_, rfl⟩
    rw [← hr0] at hrl ⊢
    have HZ2 : Hid (R = (r, s)) := by rw [hr0]; exact HT.out
    have hrn : Rn12 w2.heap.size F w5 u r.xs := Rn12.bare hrl hnw (by rw [hr0]; exact fail_bare _ _ _ _) (fun k hk => H2.out.1.ld.lt hk)
    have hns := hrn
    obtain ⟨ua, uk, uc, rfl, hj1, hj2⟩ := hns
    have H3 : Hid (Lo18 LT LS w w5 q s F F b3 b4 z n (.slice va m vc) os ∧ Rn12 w2.heap.size F w5 (.slice ua uk uc) r.xs ∧ b4 < w2.heap.size) := ⟨H2.out.1.later H0.out.1 hb, hrn, H2.out.2⟩
    clear hrl hnw hb hrn hj1 hj2 hr0 H2 c1 hEb
    unfold rpv
    go_wp2_with (refine wpList_store_row rfl 37 _ _ rfl b4 ([.int .i64 r.num, .int .i64 r.zxid, .int .i64 r.err, .int .i64 r.at_, .slice ua uk uc] : List Value).toArray rfl rfl 37 _ H3.out.1.ans.cb (by kernel_rfl) rfl (by kernel_rfl) ?_)
    have H9 := H3.out.1.fin H0.out.1 H3.out.2.1 H3.out.2.2 ([.int .i64 r.num, .int .i64 r.zxid, .int .i64 r.err, .int .i64 r.at_, .slice ua uk uc] : List Value).toArray
    refine bodyPost_ret (v := .agg ([.int .i64 r.num, .int .i64 r.zxid, .int .i64 r.err, .int .i64 r.at_, .slice ua uk uc] : List Value).toArray) ?_ rfl ⟨F, .slice ua uk uc, by rw [HZ2.out]; rfl, by rw [HZ2.out]; exact H9.1, by rw [HZ2.out]; exact H9.2.1, H9.2.2⟩
    exact results_cell_row rfl _ _ b4 37 _ (0, 0) _ rfl (H3.out.1.ans.cb.rowed ([.int .i64 r.num, .int .i64 r.zxid, .int .i64 r.err, .int .i64 r.at_, .slice ua uk uc] : List Value)) Tryz.underlying37 rfl (by kernel_rfl)
  case pos =>
  subst hE0
  have hwz : IntKind.wrap .i64 (s.z + 1) = s.z + 1 := by
    have h1 := H0.out.2.1.z
    have h2 := H0.out.2.2.1
    rw [IntKind.wrap_i64]
    omega
  obtain ⟨x, hx⟩ : ∃ x, x = s.z + 1 := ⟨_, rfl⟩
  have HX : Hid (x = s.z + 1) := hx
  obtain ⟨qt0, ql0, a0, b0, c0', e0, e1, e2, e3, e4, e5, e6, f2, hFq⟩ := H2.out.1.ld.open
  have H3 : Hid (Lo18 LT LS w (w2.setCell ⟨q, 2, none⟩ (.int .i64 x)) q { s with z := x } F F b3 b4 z n (.slice va m vc) os ∧ b4 < (w2.setCell ⟨q, 2, none⟩ (.int .i64 x)).heap.size) := by
    obtain ⟨g1, g2⟩ := H2.out.1.ld.zx H0.out.1 x
    exact ⟨H2.out.1.moved g1 g2, Nat.lt_of_lt_of_le H2.out.2 g2.size⟩
  go_upto_region 5 with fail
  rw [← hx]
  clear e0 e1 e2 e3 e4 e5 e6 f2 hFq hwz hx H2
  generalize (w2.setCell ⟨q, 2, none⟩ (.int .i64 x)) = w3 at *
  have HF : Hid (Pt.Fit (mm + 1) { s with z := x } ∧ (∀ o ∈ os, Oq.good o = 0) ∧ os.length ≤ 16) := ⟨{ H0.out.2.1.more (Nat.le_succ mm) with z := ⟨by have := H0.out.2.1.z.1; have := HX.out; show 0 ≤ x; omega, by have := H0.out.2.1.z.2; have := HX.out; show x ≤ ((mm + 1 : Nat) : Int); omega⟩ }, Pt.may_good H0.out.2.2.2.2.2.2.1.symm, (Pt.may_ok H0.out.2.2.2.2.2.2.1.symm).2.2.2.1⟩
  obtain ⟨r1, r2, hr⟩ : ∃ r1 r2, Pt.refusal { s with z := x } 0 z os = (r1, r2) := ⟨_, _, rfl⟩
  have HQ : Hid (Pt.refusal s 0 z os = (r1, r2) ∧ Pt.refusal { s with z := x } 0 z os = (r1, r2)) := ⟨hr, hr⟩
  clear hr
  have c0 : w3.cell? ⟨b3, 0, none⟩ = some (.int .i64 z) := H3.out.1.box.cb.cell 0
  have c2 : w3.cell? ⟨b3, 2, none⟩ = some (.slice va m vc) := H3.out.1.box.cb.cell 2
  go_wp2_with fail
  refine (H3.out.1.ld.refusal H0.out.1 HF.out.1 (by have := H0.out.2.2.1; omega) H3.out.1.std 0 (by unfold I64; decide) z H0.out.2.2.2.2.2.1 (.slice va m vc) os H3.out.1.arg.ol (by have := HF.out.2.2; omega) HF.out.2.1 r1 r2 HQ.out.2).mono ?_
  rintro e w4 ⟨rfl, hb⟩
  have H4 : Hid (Lo18 LT LS w w4 q { s with z := x } F F b3 b4 z n (.slice va m vc) os ∧ b4 < w4.heap.size) := ⟨H3.out.1.later H0.out.1 hb, Nat.lt_of_lt_of_le H3.out.2 hb.size⟩
  clear hb H3 c0 c2
  by_cases hr0 : r1 = 0
  case neg =>
    have HT : Hid (R = ({ Rq.fail n r1 r2 (os.length : Int) with zxid := x }, { s with z := x })) := (show R = _ by
      rw [HR.out]
      unfold Pt.local_
      rw [← H0.out.2.2.2.2.2.2.1, if_neg (by simp), HQ.out.1, if_pos hr0, ← HX.out])
    have hEb : (r1 != 0) = true := by simp [hr0]
    have c1 : w4.cell? ⟨b3, 1, none⟩ = some (.int .i64 n) := H4.out.1.box.cb.cell 1
    have c2 : w4.cell? ⟨b3, 2, none⟩ = some (.slice va m vc) := H4.out.1.box.cb.cell 2
    clear hr0
    go_wp2_with fail
    refine (fail_any12 n r1 r2 (m : Int) w4 (by omega) (by have h1 := HF.out.2.2; have h2 := H0.out.2.2.2.2.2.2.2; omega)).mono ?_
    rintro e w5 ⟨u, rfl, ⟨hrl, hnw⟩, hb⟩
    obtain ⟨r, hr0⟩ : ∃ r, r = Rq.fail n r1 r2 (m : Int) := ⟨_, rfl⟩
    rw [← hr0] at hrl ⊢
    have HZ2 : Hid (R = ({ r with zxid := x }, { s with z := x })) := (show R = _ by rw [HT.out, hr0, H0.out.2.2.2.2.2.2.2])
    have hrn : Rn12 w4.heap.size F w5 u r.xs := Rn12.bare hrl hnw (by rw [hr0]; exact fail_bare _ _ _ _) (fun k hk => H4.out.1.ld.lt hk)
    have hns := hrn
    obtain ⟨ua, uk, uc, rfl, hj1, hj2⟩ := hns
    have H5 : Hid (Lo18 LT LS w w5 q { s with z := x } F F b3 b4 z n (.slice va m vc) os ∧ Rn12 w4.heap.size F w5 (.slice ua uk uc) r.xs ∧ b4 < w4.heap.size) := ⟨H4.out.1.later H0.out.1 hb, hrn, H4.out.2⟩
    clear hrl hnw hb hrn hj1 hj2 hr0 H4 c1 c2 hEb HT
    obtain ⟨qb, hqb⟩ : ∃ z, z = w5.heap.size := ⟨_, rfl⟩
    have H6 : Hid (Cb (w5.alloc (.cells #[.int .i64 r.num, .int .i64 r.zxid, .int .i64 r.err, .int .i64 r.at_, .slice ua uk uc] 37)) qb [.int .i64 r.num, .int .i64 r.zxid, .int .i64 r.err, .int .i64 r.at_, .slice ua uk uc] 37 ∧ Lo18 LT LS w (w5.alloc (.cells #[.int .i64 r.num, .int .i64 r.zxid, .int .i64 r.err, .int .i64 r.at_, .slice ua uk uc] 37)) q { s with z := x } F F b3 b4 z n (.slice va m vc) os) := by
      have hba := (Below.refl w5.heap.size w5).alloc (Nat.le_refl _) (.cells #[.int .i64 r.num, .int .i64 r.zxid, .int .i64 r.err, .int .i64 r.at_, .slice ua uk uc] 37)
      exact ⟨by rw [hqb]; exact Cb.made w5 _ _, H5.out.1.later H0.out.1 hba⟩
    have H7 : Hid (Cb ((w5.alloc (.cells #[.int .i64 r.num, .int .i64 r.zxid, .int .i64 r.err, .int .i64 r.at_, .slice ua uk uc] 37)).setCell ⟨qb, 1, none⟩ (.int .i64 x)) qb ([.int .i64 r.num, .int .i64 x, .int .i64 r.err, .int .i64 r.at_, .slice ua uk uc] : List Value) 37 ∧ Lo18 LT LS w ((w5.alloc (.cells #[.int .i64 r.num, .int .i64 r.zxid, .int .i64 r.err, .int .i64 r.at_, .slice ua uk uc] 37)).setCell ⟨qb, 1, none⟩ (.int .i64 x)) q { s with z := x } F F b3 b4 z n (.slice va m vc) os ∧ Rn12 w4.heap.size F ((w5.alloc (.cells #[.int .i64 r.num, .int .i64 r.zxid, .int .i64 r.err, .int .i64 r.at_, .slice ua uk uc] 37)).setCell ⟨qb, 1, none⟩ (.int .i64 x)) (.slice ua uk uc) r.xs) := by
      have hba := (Below.refl w5.heap.size w5).alloc (Nat.le_refl _) (.cells #[.int .i64 r.num, .int .i64 r.zxid, .int .i64 r.err, .int .i64 r.at_, .slice ua uk uc] 37)
      have b1 := hba.grown (grownBy_setCell (w5.alloc (.cells #[.int .i64 r.num, .int .i64 r.zxid, .int .i64 r.err, .int .i64 r.at_, .slice ua uk uc] 37)) ⟨qb, 1, none⟩ (.int .i64 x)) hba.size (fun k hk => by simp at hk; omega)
      exact ⟨H6.out.1.set 1 (.int .i64 x), H5.out.1.later H0.out.1 b1, H5.out.2.1.later b1⟩
    obtain ⟨qt0, ql0, a0, b0, c0', e0, e1, e2, e3, e4, e5, e6, f2, hFq⟩ := H6.out.2.ld.open
    have d1 : (w5.alloc (.cells #[.int .i64 r.num, .int .i64 r.zxid, .int .i64 r.err, .int .i64 r.at_, .slice ua uk uc] 37)).cell? ⟨qb, 1, none⟩ = some (.int .i64 r.zxid) := (H6.out.1.cell 1).trans rfl
    have f1 := H6.out.1.free 1
    unfold rpv
    go_upto_region 8 with fail
    rw [← hqb]
    clear hqb H6
    generalize (w5.alloc (.cells #[.int .i64 r.num, .int .i64 r.zxid, .int .i64 r.err, .int .i64 r.at_, .slice ua uk uc] 37)) = w7 at *
    go_upto_region 9 with fail
    clear e0 e1 e2 e3 e4 e5 e6 f2 hFq d1 f1
    generalize (w7.setCell ⟨qb, 1, none⟩ (.int .i64 x)) = w6 at *
    go_wp2_with (first
      | (refine wpList_load_row rfl 37 _ rfl qb rfl 37 ([.int .i64 r.num, .int .i64 x, .int .i64 r.err, .int .i64 r.at_, .slice ua uk uc] : List Value).toArray (0, 0) _ H7.out.1 Tryz.underlying37 rfl (by kernel_rfl) ?_)
      | (refine wpList_store_row rfl 37 _ _ rfl b4 ([.int .i64 r.num, .int .i64 x, .int .i64 r.err, .int .i64 r.at_, .slice ua uk uc] : List Value).toArray rfl rfl 37 _ H7.out.2.1.ans.cb (by kernel_rfl) rfl (by kernel_rfl) ?_))
    have H9 := H7.out.2.1.fin H0.out.1 H7.out.2.2 H5.out.2.2 ([.int .i64 r.num, .int .i64 x, .int .i64 r.err, .int .i64 r.at_, .slice ua uk uc] : List Value).toArray
    refine bodyPost_ret (v := .agg ([.int .i64 r.num, .int .i64 x, .int .i64 r.err, .int .i64 r.at_, .slice ua uk uc] : List Value).toArray) ?_ rfl ⟨F, .slice ua uk uc, by rw [HZ2.out]; rfl, by rw [HZ2.out]; exact H9.1, by rw [HZ2.out]; exact H9.2.1, H9.2.2⟩
    exact results_cell_row rfl _ _ b4 37 _ (0, 0) _ rfl (H7.out.2.1.ans.cb.rowed ([.int .i64 r.num, .int .i64 x, .int .i64 r.err, .int .i64 r.at_, .slice ua uk uc] : List Value)) Tryz.underlying37 rfl (by kernel_rfl)
  case pos =>
    subst hr0
    obtain ⟨r, hr0⟩ : ∃ r, r = (Tq.ask s.t z n x os).1 := ⟨_, rfl⟩
    obtain ⟨t2, ht2⟩ : ∃ r, r = (Tq.ask s.t z n x os).2 := ⟨_, rfl⟩
    have HT : Hid (R = (r, { s with z := x, t := t2 }) ∧ r = (Tq.ask s.t z n x os).1 ∧ t2 = (Tq.ask s.t z n x os).2) := ⟨by
      rw [HR.out]
      unfold Pt.local_
      rw [← H0.out.2.2.2.2.2.2.1, if_neg (by simp), HQ.out.1, if_neg (by simp), hr0, ht2, HX.out], hr0, ht2⟩
    clear hr0 ht2
    obtain ⟨qt, hqt, hask⟩ := H4.out.1.ld.ask H0.out.1 H0.out.2.1.well
    obtain ⟨qt0, ql0, a0, b0, c0', e0, e1, e2, e3, e4, e5, e6, f2, hFq⟩ := H4.out.1.ld.open
    have HS4 : Hid (Sl18 q qt b3 x z n (.slice va m vc) w4) := ⟨hqt, e2, H4.out.1.box.cb.cell 0, H4.out.1.box.cb.cell 1, H4.out.1.box.cb.cell 2⟩
    clear hqt e0 e1 e2 e3 e4 e5 e6 f2 hFq
    go_upto_region 10 with fail
    refine wp_region_held_drew (S := Sl18 q qt b3 x z n (.slice va m vc)) (by kernel_rfl) HS4.out (fun _ => ?_)
    have H5 : Hid (Below w4.heap.size w4 w4.drew) := (Below.refl _ w4).drew
    have HS5 : Hid (Sl18 q qt b3 x z n (.slice va m vc) w4.drew) := HS4.out
    generalize w4.drew = w5 at *
    refine' tk (i := 0) (d := 49) rfl rfl (Or.inl ⟨by rfl, ?h0⟩) (HS5.out) ?_
    case h0 => intro w hSw; obtain ⟨t1, t2, t3, t4, t5⟩ := hSw; go_simp; with_reducible rfl
    simp only [sA, sB, sC]
    refine' tk (i := 1) (d := 50) rfl rfl (Or.inl ⟨by rfl, ?h1⟩) (HS5.out) ?_
    case h1 => intro w hSw; obtain ⟨t1, t2, t3, t4, t5⟩ := hSw; go_simp; with_reducible rfl
    simp only [sA, sB, sC]
    refine' tk (i := 2) (d := 51) rfl rfl (Or.inl ⟨by rfl, ?h2⟩) (HS5.out) ?_
    case h2 => intro w hSw; obtain ⟨t1, t2, t3, t4, t5⟩ := hSw; go_simp; with_reducible rfl
    simp only [sA, sB, sC]
    refine' tk (i := 3) (d := 52) rfl rfl (Or.inl ⟨by rfl, ?h3⟩) (HS5.out) ?_
    case h3 => intro w hSw; obtain ⟨t1, t2, t3, t4, t5⟩ := hSw; go_simp; with_reducible rfl
    simp only [sA, sB, sC]
    refine' tk (i := 4) (d := 53) rfl rfl (Or.inl ⟨by rfl, ?h4⟩) (HS5.out) ?_
    case h4 => intro w hSw; obtain ⟨t1, t2, t3, t4, t5⟩ := hSw; go_simp; with_reducible rfl
    simp only [sA, sB, sC]
    refine' tk (i := 5) (d := 54) rfl rfl (Or.inl ⟨by rfl, ?h5⟩) (HS5.out) ?_
    case h5 => intro w hSw; obtain ⟨t1, t2, t3, t4, t5⟩ := hSw; go_simp; with_reducible rfl
    simp only [sA, sB, sC]
    refine' tk (i := 6) (d := 55) rfl rfl (Or.inl ⟨by rfl, ?h6⟩) (HS5.out) ?_
    case h6 => intro w hSw; obtain ⟨t1, t2, t3, t4, t5⟩ := hSw; go_simp; with_reducible rfl
    simp only [sA, sB, sC]
    refine' tk (i := 7) (d := 56) rfl rfl (Or.inl ⟨by rfl, ?h7⟩) (HS5.out) ?_
    case h7 => intro w hSw; obtain ⟨t1, t2, t3, t4, t5⟩ := hSw; go_simp; with_reducible rfl
    simp only [sA, sB, sC]
    refine' tk (i := 8) (d := 57) rfl rfl (Or.inl ⟨by rfl, ?h8⟩) (HS5.out) ?_
    case h8 => intro w hSw; obtain ⟨t1, t2, t3, t4, t5⟩ := hSw; go_simp; with_reducible rfl
    simp only [sA, sB, sC]
    have H6 : Hid (Lo18 LT LS w w5 q { s with z := x } F F b3 b4 z n (.slice va m vc) os ∧ b4 < w5.heap.size) := ⟨H4.out.1.later H0.out.1 H5.out, Nat.lt_of_lt_of_le H4.out.2 H5.out.size⟩
    refine wpAnyH_ready (rs := [9]) (by kernel_rfl) (by simp) ?_
    refine AllReadyH.cons (o := _) rfl (fun KQ hKQ => ?_) AllReadyH.nil
    go_simp
    refine (hask w5 z n x (.slice va m vc) os H5.out H6.out.1.lo H6.out.1.std H6.out.1.arg H0.out.2.2.2.1 H0.out.2.2.2.2.1).mono ?_
    rw [← HT.out.2.1, ← HT.out.2.2]
    rintro e w6 ⟨F6, ru, rfl, hrn, hl6, hmv, hqq⟩
    have hns := hrn
    obtain ⟨ua, uk, uc, rfl, hj1, hj2⟩ := hns
    have H7 : Hid (Lo18 LT LS w w6 q { s with z := x, t := t2 } F F6 b3 b4 z n (.slice va m vc) os ∧ Rn12 w5.heap.size F6 w6 (.slice ua uk uc) r.xs ∧ b4 < w5.heap.size) := ⟨H6.out.1.moved hl6 hmv, hrn, H6.out.2⟩
    have HS7 : Hid (Sl18 q qt b3 x z n (.slice va m vc) w6) := ⟨(World.cell?_of_block hqq).trans HS5.out.1, (World.cell?_of_block hqq).trans HS5.out.2.1, H7.out.1.box.cb.cell 0, H7.out.1.box.cb.cell 1, H7.out.1.box.cb.cell 2⟩
    clear hrn hl6 hmv hqq hj1 hj2 hask H6 H4
    unfold rpv
    refine hKQ.out _ _ HS7.out (fun _ => ?_)
    clear hKQ KQ
    refine wpAnyH_ready (rs := [10]) (by kernel_rfl) (by simp) ?_
    refine AllReadyH.cons (o := _) rfl (fun KQ hKQ => ?_) AllReadyH.nil
    refine wp_store_row 37 _ _ rfl b4 ([.int .i64 r.num, .int .i64 r.zxid, .int .i64 r.err, .int .i64 r.at_, .slice ua uk uc] : List Value).toArray rfl rfl 37 _ H7.out.1.ans.cb (by kernel_rfl) rfl (by kernel_rfl) ?_
    have H9 := H7.out.1.fin H0.out.1 H7.out.2.1 H7.out.2.2 ([.int .i64 r.num, .int .i64 r.zxid, .int .i64 r.err, .int .i64 r.at_, .slice ua uk uc] : List Value).toArray
    have H10 : Hid (Rn12 w.heap.size F6 (w6.setRow b4 ([.int .i64 r.num, .int .i64 r.zxid, .int .i64 r.err, .int .i64 r.at_, .slice ua uk uc] : List Value).toArray) (.slice ua uk uc) r.xs ∧ LPt18 LT LS (w6.setRow b4 ([.int .i64 r.num, .int .i64 r.zxid, .int .i64 r.err, .int .i64 r.at_, .slice ua uk uc] : List Value).toArray) q { s with z := x, t := t2 } F6 ∧ Moved w (w6.setRow b4 ([.int .i64 r.num, .int .i64 r.zxid, .int .i64 r.err, .int .i64 r.at_, .slice ua uk uc] : List Value).toArray) F F6) := H9
    have HS8 : Hid (Sl18 q qt b3 x z n (.slice va m vc) (w6.setRow b4 ([.int .i64 r.num, .int .i64 r.zxid, .int .i64 r.err, .int .i64 r.at_, .slice ua uk uc] : List Value).toArray)) := by
      have h1 : ∀ k, k ≠ b4 → (w6.setRow b4 ([.int .i64 r.num, .int .i64 r.zxid, .int .i64 r.err, .int .i64 r.at_, .slice ua uk uc] : List Value).toArray).heap[k]? = w6.heap[k]? := fun k hk => setRow_other w6 b4 k _ hk
      have hq4 : q ≠ b4 := fun e => by
        obtain ⟨_, _, _, _, _, _, _, _, _, _, _, _, _, hFq⟩ := H7.out.1.ld.open
        exact H7.out.1.ans.off (e ▸ hFq)
      have h34 : b3 ≠ b4 := fun e => by
        have h5 := H7.out.1.box.cb.cell 0
        have h6 := H7.out.1.box.cb
        have h7 := H7.out.1.ans.cb
        rw [e] at h6
        unfold Cb at h6 h7
        rw [h6] at h7
        cases h7
      exact ⟨(World.cell?_of_block (h1 q hq4)).trans HS7.out.1, (World.cell?_of_block (h1 q hq4)).trans HS7.out.2.1, (World.cell?_of_block (h1 b3 h34)).trans HS7.out.2.2.1, (World.cell?_of_block (h1 b3 h34)).trans HS7.out.2.2.2.1, (World.cell?_of_block (h1 b3 h34)).trans HS7.out.2.2.2.2⟩
    clear H9
    refine hKQ.out _ _ HS8.out (fun _ => ?_)
    clear hKQ KQ
    refine wpAnyH_done (by kernel_rfl) ?_ _
    go_wp2
    refine bodyPost_ret (v := .agg ([.int .i64 r.num, .int .i64 r.zxid, .int .i64 r.err, .int .i64 r.at_, .slice ua uk uc] : List Value).toArray) ?_ rfl ⟨F6, .slice ua uk uc, by rw [HT.out.1]; rfl, by rw [HT.out.1]; exact H10.out.1, by rw [HT.out.1]; exact H10.out.2.1, H10.out.2.2⟩
    exact results_cell_row rfl _ _ b4 37 _ (0, 0) _ rfl (H7.out.1.ans.cb.rowed ([.int .i64 r.num, .int .i64 r.zxid, .int .i64 r.err, .int .i64 r.at_, .slice ua uk uc] : List Value)) Tryz.underlying37 rfl (by kernel_rfl)
end
end Go.Proofs.YtboejbjobjhajaaGreatDoor
namespace Go.Proofs.YtboejbjobjhajaaGreatDoor
open Go.RowKit
section
variable {LT : Rep11} {LS : Rep17}
theorem lpt_new18 (S : Base18 LT LS) {w0 w : World} {qt ql : Nat} {n : Int} {Ft Fl : Nat → Prop} (ht : LT w qt ⟨n, []⟩ Ft) (hl : LS w ql [] Fl) (h1 : ∀ k, Ft k → w0.heap.size ≤ k) (h2 : ∀ k, Fl k → w0.heap.size ≤ k) (h3 : ∀ k, Ft k → ¬ Fl k) (h0 : w0.heap.size ≤ w.heap.size) :
    ∃ F, LPt18 LT LS ((((w.alloc (.map #[] 0)).alloc (.map #[] 0)).alloc (.map #[] 0)).alloc (.cells #[dptr qt, .int .i64 n, .int .i64 0, dptr ql, .map (some w.heap.size), .map (some (w.heap.size + 1)), .map (some (w.heap.size + 2)), .int .i64 0] 90)) (w.heap.size + 3) (Pt.new n) F ∧ (∀ k, F k → w0.heap.size ≤ k) ∧ Below w.heap.size w ((((w.alloc (.map #[] 0)).alloc (.map #[] 0)).alloc (.map #[] 0)).alloc (.cells #[dptr qt, .int .i64 n, .int .i64 0, dptr ql, .map (some w.heap.size), .map (some (w.heap.size + 1)), .map (some (w.heap.size + 2)), .int .i64 0] 90)) := by
  obtain ⟨g, hg⟩ : ∃ g, g = w.heap.size := ⟨_, rfl⟩
  rw [← hg]
  obtain ⟨w1, e1⟩ : ∃ w1, w1 = w.alloc (.map #[] 0) := ⟨_, rfl⟩
  have m1 : Mq w1 2 g (fun _ => none) := by rw [e1, hg]; exact Mq.made w _
  have s1 : w1.heap.size = g + 1 := by rw [e1, hg]; simp
  have b1 : Below g w w1 := by rw [e1, hg]; exact (Below.refl _ w).alloc (Nat.le_refl _) _
  rw [← e1]
  obtain ⟨w2, e2⟩ : ∃ w2, w2 = w1.alloc (.map #[] 0) := ⟨_, rfl⟩
  have m2 : Mq w2 2 (g + 1) (fun _ => none) := by rw [e2, ← s1]; exact Mq.made w1 _
  have s2 : w2.heap.size = g + 2 := by rw [e2]; simp [s1]
  have b2 : Below w1.heap.size w1 w2 := by rw [e2]; exact (Below.refl _ w1).alloc (Nat.le_refl _) _
  rw [← e2]
  obtain ⟨w3, e3⟩ : ∃ w3, w3 = w2.alloc (.map #[] 0) := ⟨_, rfl⟩
  have m3 : Mq w3 2 (g + 2) (fun _ => none) := by rw [e3, ← s2]; exact Mq.made w2 _
  have s3 : w3.heap.size = g + 3 := by rw [e3]; simp [s2]
  have b3 : Below w2.heap.size w2 w3 := by rw [e3]; exact (Below.refl _ w2).alloc (Nat.le_refl _) _
  rw [← e3]
  obtain ⟨w5, e5⟩ : ∃ w5, w5 = w3.alloc (.cells #[dptr qt, .int .i64 n, .int .i64 0, dptr ql, .map (some g), .map (some (g + 1)), .map (some (g + 2)), .int .i64 0] 90) := ⟨_, rfl⟩
  have m5 : Cb w5 (g + 3) [dptr qt, .int .i64 n, .int .i64 0, dptr ql, .map (some g), .map (some (g + 1)), .map (some (g + 2)), .int .i64 0] 90 := by rw [e5, ← s3]; exact Cb.made w3 _ _
  have s5 : w5.heap.size = g + 4 := by rw [e5]; simp [s3]
  have b5 : Below w3.heap.size w3 w5 := by rw [e5]; exact (Below.refl _ w3).alloc (Nat.le_refl _) _
  rw [← e5]
  have k1 : w5.heap[g]? = w1.heap[g]? := by rw [b5.block g (by omega), b3.block g (by omega), b2.block g (by omega)]
  have k2 : w5.heap[g + 1]? = w2.heap[g + 1]? := by rw [b5.block _ (by omega), b3.block _ (by omega)]
  have k3 : w5.heap[g + 2]? = w3.heap[g + 2]? := by rw [b5.block _ (by omega)]
  have hb2 : Below g w w2 := b1.trans (b2.mono (by omega))
  have hb3 : Below g w w3 := hb2.trans (b3.mono (by omega))
  have hb5 : Below g w w5 := hb3.trans (b5.mono (by omega))
  have lt : ∀ k, Ft k → k < g := fun k hk => by rw [hg]; exact S.t.lt ht hk
  have ll : ∀ k, Fl k → k < g := fun k hk => by rw [hg]; exact S.l.lt hl hk
  classical
  refine ⟨fun k => Ft k ∨ Fl k ∨ (g ≤ k ∧ k < g + 4), ⟨fun _ => none, fun _ => none, fun _ => none, qt, ql, g, g + 1, g + 2, Ft, Fl, fun _ => False, fun _ => .slice none 0 0, ⟨m5, S.t.keep ht (fun k hk => hb5.block k (lt k hk)), S.l.keep hl (fun k hk => hb5.block k (ll k hk)), m1.keep k1, m2.keep k2, m3.keep k3, ⟨fun k => if k = g + 3 then 1 else if k = g then 2 else if k = g + 1 then 3 else if k = g + 2 then 4 else if Ft k then 5 else if Fl k then 6 else 0, ?_⟩, fun k hk => ?_⟩, ⟨fun z => rfl, fun kl h => (by cases h), fun p hp => (by cases hp), fun p hp => (by cases hp)⟩, ⟨fun z => ?_, fun kl h => (by cases h)⟩, ⟨fun z => ?_, fun kl h => (by cases h)⟩⟩, fun k hk => ?_, hb5⟩
  · refine ⟨by simp, by simp, by simp, by simp, fun k hk => ?_, fun k hk => ?_, fun k hk => hk.elim, fun k hk => ?_⟩
    · have := lt k hk
      rw [if_neg (by omega), if_neg (by omega), if_neg (by omega), if_neg (by omega), if_pos hk]
    · have := ll k hk
      rw [if_neg (by omega), if_neg (by omega), if_neg (by omega), if_neg (by omega), if_neg (fun e => h3 k e hk), if_pos hk]
    · by_cases e1 : k = g + 3
      · exact Or.inr (Or.inr (by omega))
      by_cases e2 : k = g
      · exact Or.inr (Or.inr (by omega))
      by_cases e3 : k = g + 1
      · exact Or.inr (Or.inr (by omega))
      by_cases e4 : k = g + 2
      · exact Or.inr (Or.inr (by omega))
      rw [if_neg e1, if_neg e2, if_neg e3, if_neg e4] at hk
      by_cases e5 : Ft k
      · exact Or.inl e5
      by_cases e6 : Fl k
      · exact Or.inr (Or.inl e6)
      rw [if_neg e5, if_neg e6] at hk
      exact absurd rfl hk
  · rw [s5]
    rcases hk with e | e | e
    · have := lt k e
      omega
    · have := ll k e
      omega
    · omega
  · show none = if z ∈ (Pt.new n).dn then _ else _
    rw [if_neg (fun e => by cases e)]
  · show none = sq18 0 false (decide (z ∈ []))
    rw [decide_eq_false (fun e => by cases e)]
    rfl
  · rcases hk with e | e | e
    · exact h1 k e
    · exact h2 k e
    · omega
set_option maxRecDepth 20000 in
set_option maxHeartbeats 4000000 in
theorem new_any18 (S : Base18 LT LS) (n : Int) (w : World) : Calls Tryz.prog 10 #[.int .i64 n] w fun e w' => Below w.heap.size w w' ∧
    if n < 1 ∨ 500 < n then e = .returned (.tuple #[.pointer none, .int .i64 1]) else ∃ q F, e = .returned (.tuple #[dptr q, .int .i64 0]) ∧ LPt18 LT LS w' q (Pt.new n) F ∧ ∀ k, F k → w.heap.size ≤ k := by
  have H0 : Hid (Base18 LT LS) := S
  have HN := S.t.new n w
  clear S
  have hmm := @run_makeMap Tryz.prog
  by_cases hn : n < 1 ∨ 500 < n
  · simp only [if_pos hn] at HN ⊢
    clear hn
    go_enter Tryz.func10, Tryz.ntmps10
    go_wp2_with fail
    refine HN.mono ?_
    rintro e w1 ⟨hb, rfl⟩
    have HB : Hid (Below w.heap.size w w1) := hb
    clear hb HN
    go_wp2
    go_ret2
    exact ⟨HB.out, rfl⟩
  · simp only [if_neg hn] at HN ⊢
    clear hn
    go_enter Tryz.func10, Tryz.ntmps10
    go_wp2_with fail
    refine HN.mono ?_
    clear HN
    rintro e w1 ⟨hb, qt, Ft, rfl, ht, hlo⟩
    have H1 : Hid (Below w.heap.size w w1 ∧ LT w1 qt ⟨n, []⟩ Ft ∧ ∀ k, Ft k → w.heap.size ≤ k) := ⟨hb, ht, hlo⟩
    clear hb ht hlo
    unfold dptr
    go_wp2_with fail
    refine (H0.out.l.new w1).mono ?_
    rintro e w2 ⟨ql, Fl, rfl, hl, hll, hb⟩
    have H2 : Hid (Below w.heap.size w w2 ∧ ∃ F, LPt18 LT LS ((((w2.alloc (.map #[] 0)).alloc (.map #[] 0)).alloc (.map #[] 0)).alloc (.cells #[dptr qt, .int .i64 n, .int .i64 0, dptr ql, .map (some w2.heap.size), .map (some (w2.heap.size + 1)), .map (some (w2.heap.size + 2)), .int .i64 0] 90)) (w2.heap.size + 3) (Pt.new n) F ∧ (∀ k, F k → w.heap.size ≤ k) ∧ Below w2.heap.size w2 ((((w2.alloc (.map #[] 0)).alloc (.map #[] 0)).alloc (.map #[] 0)).alloc (.cells #[dptr qt, .int .i64 n, .int .i64 0, dptr ql, .map (some w2.heap.size), .map (some (w2.heap.size + 1)), .map (some (w2.heap.size + 2)), .int .i64 0] 90))) := by
      have h2 := H1.out.1.size
      refine ⟨H1.out.1.trans (hb.mono h2), lpt_new18 (w0 := w) H0.out (H0.out.t.keep H1.out.2.1 fun k hk => hb.block k (H0.out.t.lt H1.out.2.1 hk)) hl H1.out.2.2 (fun k hk => Nat.le_trans h2 (hll k hk)) (fun k hk e => ?_) (Nat.le_trans h2 hb.size)⟩
      have h3 := H0.out.t.lt H1.out.2.1 hk
      have h4 := hll k e
      omega
    clear hl hll hb H1
    unfold dptr
    go_wp2
    go_ret2
    obtain ⟨hb, F, g1, g2, g3⟩ := H2.out
    exact ⟨hb.trans (g3.mono hb.size), _, F, rfl, g1, g2⟩
end
end Go.Proofs.YtboejbjobjhajaaGreatDoor
namespace Go.Proofs.YtboejbjobjhajaaGreatDoor
open Go.RowKit Go.Sort
theorem sorts18 (n : Nat) : AnyZI.SortsIn Tryz.prog Tryz.sorted64_ren Fence.wide n :=
  ⟨fun blk off cap ss W hH hblk hsz => callsIn_wide.2 (AnyM.slices_Sort_int Tryz.sort64 blk off cap ss W hH hblk hsz), fun p cap W => callsIn_wide.2 (AnyM.slices_Sort_int_none Tryz.sort64 p cap W)⟩
theorem keys18 (mb : Option Nat) (W : World) : Calls Tryz.prog 77 #[.map mb] W fun e w' => e = .returned (.func (.func 119) #[] #[.pointer (some ⟨W.heap.size, 0, none⟩)]) ∧ w' = W.alloc (.cells #[.map mb] 86) :=
  callsIn_wide.1 (AnyZI.keys_in Tryz.keysW Fence.wide 5 trivial rfl mb W)
set_option maxHeartbeats 2000000 in
theorem sorted18 (b n : Nat) (D0 : DataW Value) (w : World) (hown : w.ownsMap Tryz.prog 2 anyElem b n D0) (hmax : Maps.size D0 ≤ 100000) :
    Calls Tryz.prog 76 #[.func (.func 119) #[] #[.pointer (some ⟨w.heap.size, 0, none⟩)]] (w.alloc (.cells #[.map (some b)] 86)) fun e w' => ∃ (v : Value) (ss : List Int), e = .returned v ∧ ss.Perm (intKeys D0) ∧
      w'.ownsRow (w.alloc (.cells #[.map (some b)] 86)).heap.size 2 1 v ss.length ((ss.mergeSort leI).map encZ) ∧ Below (w.alloc (.cells #[.map (some b)] 86)).heap.size (w.alloc (.cells #[.map (some b)] 86)) w' := by
  have hseq : SeqGives Fence.wide 2 Tryz.prog 119 #[.pointer (some ⟨w.heap.size, 0, none⟩)] encZ (fun ss => ss.Perm (intKeys D0)) (Maps.size D0) (w.alloc (.cells #[.map (some b)] 86)) :=
    AnyZI.keys_gives (ρ := Tryz.keysW_ren) { Tryz.keysW with } Fence.wide _ trivial rfl (by omega) w.heap.size b n D0 _ (by simp) (by simp) (hown.alloc _)
  have key := AnyZI.sorted_in Tryz.sorted64 Fence.wide 5 trivial trivial trivial trivial rfl (by omega) (sorts18 _) (enters_of Tryz.func118 (by kernel_rfl) rfl) 119 #[.pointer (some ⟨w.heap.size, 0, none⟩)] trivial (enters_of Tryz.func119 (by kernel_rfl) rfl) _ _ (by unfold maxLen; omega) (by omega) _ hseq
  refine (callsIn_wide.1 key).mono ?_
  rintro e w' ⟨v, ss, h1, h2, h3, _, h5⟩
  exact ⟨v, ss, h1, h2, h3, h5⟩
theorem ids_perm18 {w : World} {ps : List Pt.Pr} {V : Int → Value} {G : Nat → Prop} {f : Lit → Option Value} {b n : Nat} {D : DataW Value} (h : IsW18 w ps V G f) (hu : ps.Pairwise fun p q => p.id ≠ q.id) (hown : w.ownsMap Tryz.prog 2 anyElem b n D) (hh : ∀ kl, Maps.has D kl = (f kl).isSome) : (ps.map (·.id)).Perm (intKeys D) := by
  obtain ⟨es, hD, hpw, _⟩ := hown.entries keyedI
  obtain ⟨es', hD', hko⟩ := hown.keysOf
  obtain rfl : es = es' := by rw [hD] at hD'; simpa using hD'
  rw [hD]
  refine perm_intKeys hpw (fun p hp => by obtain ⟨v, hv⟩ := hko p hp; obtain ⟨x, _, hx, _⟩ := Maps.keyOf_i64 Tryz.underlying2 hv; exact ⟨x, hx⟩) (by unfold List.Nodup; rw [List.pairwise_map]; exact hu) (fun x => ?_)
  rw [← hD, hh]
  have e := h.at_ x
  unfold ikey at e
  rw [e, Option.isSome_map, List.find?_isSome, List.mem_map]
  constructor
  · rintro ⟨p, hp, rfl⟩
    exact ⟨p, hp, by simp⟩
  · rintro ⟨p, hp, e⟩
    exact ⟨p, hp, by simpa using e⟩
section
variable {LT : Rep11} {LS : Rep17}
set_option maxRecDepth 20000 in
set_option maxHeartbeats 2000000 in
theorem waiting_any18 {w : World} {q : Nat} {s : Pt.St} {F : Nat → Prop} {mm : Nat} (h : LPt18 LT LS w q s F) (hf : Pt.Fit mm s) (hm : mm ≤ 1001) :
    Calls Tryz.prog 31 #[dptr q] w fun e w' => ∃ v, e = .returned v ∧ w'.ownsRow w.heap.size 2 1 v (Pt.waiting s).length ((Pt.waiting s).map (Value.int .i64)) ∧ Below w.heap.size w w' := by
  obtain ⟨fw, fd, fs, qt, ql, a, b, c, Ft, Fl, G, V, h, h1, _, _⟩ := h
  obtain ⟨D, hown, hh, _⟩ := h.mw.few keyedI h1.few
  have hp := ids_perm18 h1 hf.uniq hown hh
  have c4 : w.cell? ⟨q, 4, none⟩ = some (.map (some a)) := h.blk.cell 4
  have HK : Hid (Calls Tryz.prog 77 #[.map (some a)] w fun e w' => e = .returned (.func (.func 119) #[] #[.pointer (some ⟨w.heap.size, 0, none⟩)]) ∧ w' = w.alloc (.cells #[.map (some a)] 86)) := keys18 (some a) w
  have HS : Hid (Calls Tryz.prog 76 #[.func (.func 119) #[] #[.pointer (some ⟨w.heap.size, 0, none⟩)]] (w.alloc (.cells #[.map (some a)] 86)) fun e w' => ∃ v, e = .returned v ∧ w'.ownsRow w.heap.size 2 1 v (Pt.waiting s).length ((Pt.waiting s).map (Value.int .i64)) ∧ (∃ a n c, v = .slice a n c) ∧ Below w.heap.size w w') := by
    refine (sorted18 a _ D w hown (by have h2 := hown.size_le; have h3 := hf.lens.1; omega)).mono ?_
    rintro e w' ⟨v, ss, rfl, hps, hrow, hb⟩
    have hb1 : Below w.heap.size w (w.alloc (.cells #[.map (some a)] 86)) := (Below.refl _ w).alloc (Nat.le_refl _) _
    have e1 : ss.mergeSort leI = Pt.waiting s := mergeSort_of_perm_i (hps.trans hp.symm)
    have e2 : ss.length = (Pt.waiting s).length := by rw [← e1, List.length_mergeSort]
    rw [e1, e2] at hrow
    have h4 : ∃ a n c, v = .slice a n c := by
      rcases hrow.2 with ⟨e3, _⟩ | ⟨g, cap, cur, e3, _⟩
      · exact ⟨_, _, _, e3⟩
      · exact ⟨_, _, _, e3⟩
    exact ⟨v, rfl, hrow.mono hb1.size, h4, hb1.trans (hb.mono hb1.size)⟩
  clear h h1 hown hh hp
  unfold dptr
  go_enter Tryz.func31, Tryz.ntmps31
  go_wp2_with fail
  refine HK.out.mono ?_
  rintro e w1 ⟨rfl, hw1⟩
  rw [hw1]
  clear hw1
  go_wp2_with fail
  refine HS.out.mono ?_
  rintro e w2 ⟨v, rfl, hss, ⟨a, n, c, rfl⟩, hb⟩
  have HFIN : Hid (w2.ownsRow w.heap.size 2 1 (.slice a n c) (Pt.waiting s).length ((Pt.waiting s).map (Value.int .i64)) ∧ Below w.heap.size w w2) := ⟨hss, hb⟩
  clear hss hb
  go_wp2
  go_ret
  exact ⟨_, rfl, HFIN.out⟩
end
end Go.Proofs.YtboejbjobjhajaaGreatDoor
