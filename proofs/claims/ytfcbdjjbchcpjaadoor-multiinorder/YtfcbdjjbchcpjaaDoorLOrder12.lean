/- MultiInOrder's walk. -/
import Derived.Test.YtfcbdjjbchcpjaaDoorLAwake12
import Derived.Test.YtfcbdjjbchcpjaaDoorOp12
namespace Go.Proofs.YtfcbdjjbchcpjaaDoor.Tq
/-- A path of so many names. -/
def pk : Nat → ByteArray
  | 0 => ⟨#[]⟩
  | n + 1 => pk n ++ ⟨#[47, 107]⟩
theorem pk_size : ∀ n, (pk n).size = 2 * n
  | 0 => rfl
  | n + 1 => by
    show (pk n ++ (⟨#[47, 107]⟩ : ByteArray)).size = 2 * (n + 1)
    rw [ByteArray.size_append, pk_size n]
    show 2 * n + 2 = 2 * (n + 1)
    omega
def ups (n : Nat) : List O := (List.range n).map fun i => mk (pk (i + 1)) 0
def downs (n : Nat) : List O := (ups n).reverse
theorem ups_more (n : Nat) : ups (n + 1) = ups n ++ [mk (pk (n + 1)) 0] := by unfold ups; rw [List.range_succ, List.map_append]; rfl
theorem downs_more (n : Nat) : downs (n + 1) = [mk (pk (n + 1)) 0] ++ downs n := by unfold downs; rw [ups_more, List.reverse_append]; rfl
theorem ups_len (n : Nat) : (ups n).length = n := by unfold ups; simp
theorem downs_len (n : Nat) : (downs n).length = n := by unfold downs; rw [List.length_reverse, ups_len]
theorem ups_fit {n : Nat} (hn : n ≤ 8) : ∀ o ∈ ups n, OFit o := fun o ho => by
  obtain ⟨i, hi, rfl⟩ := List.mem_map.1 ho
  have h := List.mem_range.1 hi
  exact fit_mk (by rw [pk_size]; unfold maxLen; omega) (by decide)
theorem downs_fit {n : Nat} (hn : n ≤ 8) : ∀ o ∈ downs n, OFit o := fun o ho => ups_fit hn o (List.mem_reverse.1 ho)
theorem order_down {n : Nat} (h2 : 2 ≤ n) (h8 : n ≤ 8) : (many ⟨20, []⟩ 1 1 (downs n)).1.2 = false ∧ (many ⟨20, []⟩ 1 1 (downs n)).1.1.err = 4 ∧ (many ⟨20, []⟩ 1 1 (downs n)).1.1.at_ = 0 ∧ (many ⟨20, []⟩ 1 1 (downs n)).2 = ⟨20, []⟩ := by
  have h : n = 2 ∨ n = 3 ∨ n = 4 ∨ n = 5 ∨ n = 6 ∨ n = 7 ∨ n = 8 := by omega
  rcases h with rfl | rfl | rfl | rfl | rfl | rfl | rfl <;> exact ⟨by kernel_rfl, by kernel_rfl, by kernel_rfl, by kernel_rfl⟩
theorem order_up {n : Nat} (h2 : 2 ≤ n) (h8 : n ≤ 8) : (many ⟨20, []⟩ 1 2 (ups n)).1.2 = true ∧ (many ⟨20, []⟩ 1 2 (ups n)).1.1.err = 0 ∧ (many ⟨20, []⟩ 1 2 (ups n)).2.l.length = n := by
  have h : n = 2 ∨ n = 3 ∨ n = 4 ∨ n = 5 ∨ n = 6 ∨ n = 7 ∨ n = 8 := by omega
  rcases h with rfl | rfl | rfl | rfl | rfl | rfl | rfl <;> exact ⟨by kernel_rfl, by kernel_rfl, by kernel_rfl⟩
end Go.Proofs.YtfcbdjjbchcpjaaDoor.Tq
namespace Go.Proofs.YtfcbdjjbchcpjaaDoor
open Go.RowKit

theorem row_one12 (w : World) (o : O) : (w.alloc (.cells (oc o).toArray 35)).ownsRow w.heap.size 35 5 (.slice (some ⟨w.heap.size, 0, none⟩) 1 1) ([o] : List O).length (([o] : List O).flatMap oc) :=
  ⟨by simp [oc], .inr ⟨w.heap.size, 1, (oc o).toArray, rfl, Nat.le_refl _, heap_alloc_new w _, Nat.le_refl _, by decide, rfl, by simp [oc]⟩⟩
/-- The two lists that are made. -/
structure Ud12 (W w : World) (u d : Value) (k : Nat) : Prop where
  below : Below W.heap.size W w
  up : w.ownsRow W.heap.size 35 5 u (Tq.ups k).length ((Tq.ups k).flatMap oc)
  down : w.ownsRow W.heap.size 35 5 d (Tq.downs k).length ((Tq.downs k).flatMap oc)
  apart : ∀ j, u.ownBlock = some j → d.ownBlock ≠ some j
theorem Ud12.later {W w w' : World} {u d : Value} {k : Nat} (h : Ud12 W w u d k) (hb : Below w.heap.size w w') : Ud12 W w' u d k :=
  ⟨h.below.trans (hb.mono h.below.size), row_stays h.up (fun j e => hb.block j (h.up.lt j e).2), row_stays h.down (fun j e => hb.block j (h.down.lt j e).2), h.apart⟩
theorem Ud12.om {W w : World} {F : Nat → Prop} {v : Value} {os : List O} (h : w.ownsRow W.heap.size 35 5 v os.length (os.flatMap oc)) (hF : ∀ k, F k → w.heap.size ≤ k) : Om12 w F v os := ⟨Ol.own h, fun _ k hk e => by have := hF k e; have := (h.lt k hk).2; omega⟩

/-- The same, one Op of the first more. -/
structure Ud12' (W w : World) (u d : Value) (k : Nat) : Prop where
  below : Below W.heap.size W w
  up : w.ownsRow W.heap.size 35 5 u (Tq.ups (k + 1)).length ((Tq.ups (k + 1)).flatMap oc)
  down : w.ownsRow W.heap.size 35 5 d (Tq.downs k).length ((Tq.downs k).flatMap oc)
  apart : ∀ j, u.ownBlock = some j → d.ownBlock ≠ some j
theorem Ud12'.later {W w w' : World} {u d : Value} {k : Nat} (h : Ud12' W w u d k) (hb : Below w.heap.size w w') : Ud12' W w' u d k :=
  ⟨h.below.trans (hb.mono h.below.size), row_stays h.up (fun j e => hb.block j (h.up.lt j e).2), row_stays h.down (fun j e => hb.block j (h.down.lt j e).2), h.apart⟩
theorem Mine11.fresh {LT : Rep11} (S : Specs11 LT) {W w : World} (n : Int) (hn : ¬ (n < 1 ∨ 500 < n)) (hW : Below W.heap.size W w) :
    Calls Tryd.prog 8 #[.int .i64 n] w fun e w' => ∃ q F, e = .returned (.tuple #[dptr q, .int .i64 0]) ∧ Mine11 LT W w' q ⟨n, []⟩ F ∧ (∀ k, F k → w.heap.size ≤ k) ∧ Below w.heap.size w w' := by
  refine (S.new n w).mono ?_
  rintro e w' ⟨hb, h⟩
  rw [if_neg hn] at h
  obtain ⟨q, F, rfl, h1, h2⟩ := h
  exact ⟨q, F, rfl, ⟨h1, fine11_new hn, fun k hk => Nat.le_trans hW.size (h2 k hk), hW.trans (hb.mono hW.size)⟩, h2, hb⟩

set_option maxRecDepth 20000 in
set_option maxHeartbeats 8000000 in
theorem order_any12 {LT : Rep11} (S : Specs11 LT) (D : SpecD12 LT) (n : Int) (W : World) (hS : Pa.Std W) :
    Calls Tryd.prog 6 #[.int .i64 n] W fun e w' => e = .returned (.bool true) ∧ Below W.heap.size W w' := by
  have HS : Hid (Specs11 LT ∧ SpecD12 LT ∧ Pa.Std W) := ⟨S, D, hS⟩
  clear S D hS
  go_enter Tryd.func6, Tryd.ntmps6
  go_wp2_with fail
  refine (awake_any12 HS.out.1 HS.out.2.1 W HS.out.2.2).mono ?_
  rintro e w0 ⟨rfl, hb⟩
  have B0 : Hid (Below W.heap.size W w0) := hb
  clear hb
  by_cases h2 : n < 2
  · go_wp2
    go_ret
    exact ⟨rfl, B0.out⟩
  by_cases h8 : 8 < n
  · go_wp2
    go_ret
    exact ⟨rfl, B0.out⟩
  obtain ⟨N, hN⟩ : ∃ N : Nat, (N : Int) = n := ⟨n.toNat, by omega⟩
  subst hN
  have HN : Hid (2 ≤ N ∧ N ≤ 8) := ⟨by omega, by omega⟩
  go_wp2
  clear h2
  have H0 : Hid (Ud12 W w0 (.slice none 0 0) (.slice none 0 0) 0) := ⟨B0.out, World.ownsRow_nil _ _ _ _, World.ownsRow_nil _ _ _ _, fun j e => (by cases e)⟩
  clear B0
  go_loopw [3, 4, 5, 6] (fun u d p i wr => ∃ (k : Nat), k ≤ N ∧ i = .int .i64 (k : Int) ∧ p = .string (Tq.pk k) ∧ Ud12 W wr u d k) (fun _ _ _ i _ => N - (intOf i).toNat)
  case atStart => exact ⟨0, Nat.zero_le _, rfl, rfl, H0.out⟩
  case round =>
    obtain ⟨k, hk, rfl, rfl, hU⟩ := hrel
    have H1 : Hid (Ud12 W wr u3 u4 k) := hU
    obtain ⟨ua, uc, eu, hj1, hj2⟩ := row_form hU.up
    obtain ⟨da, dc, ed, hj3, hj4⟩ := row_form hU.down
    rw [Tq.ups_len] at eu
    rw [Tq.downs_len] at ed
    subst eu ed
    clear hU hj1 hj2 hj3 hj4 H0
    by_cases hlt : k < N
    · have hlt' : (k : Int) < (N : Int) := by omega
      have hk0 : (0 : Int) ≤ (k : Int) := by omega
      have hwk : IntKind.wrap .i64 ((k : Int) + 1) = (k : Int) + 1 := by rw [IntKind.wrap_i64]; omega
      have hps : (Tq.pk k).size ≤ 16 := by rw [Tq.pk_size]; omega
      go_wp2_with fail
      refine (made_any12 (Tq.pk (k + 1)) 0 wr).mono ?_
      rintro e w2 ⟨rfl, hb⟩
      have H2 : Hid (Ud12 W w2 (.slice ua k uc) (.slice da k dc) k) := H1.out.later hb
      clear hb H1
      unfold ov Tq.mk
      simp only []
      obtain ⟨sb, hsb⟩ : ∃ z, z = w2.heap.size := ⟨_, rfl⟩
      have H3 : Hid (Ud12 W (w2.alloc (.cells #[.int .i64 1, .string (Tq.pk (k + 1)), .string ⟨#[]⟩, .int .i64 0, .int .i64 0] 35)) (.slice ua k uc) (.slice da k dc) k ∧ Cb (w2.alloc (.cells #[.int .i64 1, .string (Tq.pk (k + 1)), .string ⟨#[]⟩, .int .i64 0, .int .i64 0] 35)) sb (oc (Tq.mk (Tq.pk (k + 1)) 0)) 35) := ⟨H2.out.later ((Below.refl _ w2).alloc (Nat.le_refl _) _), by rw [hsb]; exact Cb.made w2 (oc (Tq.mk (Tq.pk (k + 1)) 0)) _⟩
      go_wp2_with (at_builtin; rw [← hsb]; refine wpList_op12 rfl _ _ rfl W.heap.size (.slice ua k uc) (Tq.ups k) (Tq.mk (Tq.pk (k + 1)) 0) sb (w2.alloc (.cells #[.int .i64 1, .string (Tq.pk (k + 1)), .string ⟨#[]⟩, .int .i64 0, .int .i64 0] 35)) rfl rfl H3.out.1.up H3.out.1.below.size H3.out.2 (by rw [Tq.ups_len]; omega) ?_)
      have HW3 : Hid ((w2.alloc (.cells #[.int .i64 1, .string (Tq.pk (k + 1)), .string ⟨#[]⟩, .int .i64 0, .int .i64 0] 35)).heap.size = w2.heap.size + 1) := World.size_alloc _ _
      clear hsb
      generalize (w2.alloc (.cells #[.int .i64 1, .string (Tq.pk (k + 1)), .string ⟨#[]⟩, .int .i64 0, .int .i64 0] 35)) = w3 at *
      intro v4 w4 hr4 hg4 hv4
      (try rw [← HW3.out] at hv4)
      have H4 : Hid (Ud12' W w4 v4 (.slice da k dc) k) := by
        have hd := H3.out.1.down
        refine ⟨H3.out.1.below.grown hg4 H3.out.1.below.size (fun j hj => (H3.out.1.up.lt j hj).1), by rw [Tq.ups_more]; simpa using hr4, row_stays hd (fun j e => hg4.block j (hd.lt j e).2 (fun e2 => H3.out.1.apart j e2.symm e)), fun j e e2 => ?_⟩
        rcases hv4 with hv | hv
        · exact H3.out.1.apart j (hv ▸ e) e2
        · rw [hv] at e
          have := (hd.lt j e2).2
          simp only [Option.some.injEq] at e
          omega
      obtain ⟨ua4, uc4, eu4, hj1, hj2⟩ := row_form H4.out.up
      rw [Tq.ups_len] at eu4
      subst eu4
      clear hr4 hg4 hv4 hj1 hj2 H3 H2
      go_wp2_with fail
      refine (made_any12 (Tq.pk (k + 1)) 0 w4).mono ?_
      rintro e w5 ⟨rfl, hb⟩
      have H5 : Hid (Ud12' W w5 (.slice ua4 (k + 1) uc4) (.slice da k dc) k) := H4.out.later hb
      clear hb H4
      unfold ov Tq.mk
      simp only []
      obtain ⟨sb, hsb⟩ : ∃ z, z = w5.heap.size := ⟨_, rfl⟩
      have H6 : Hid (Ud12' W (w5.alloc (.cells #[.int .i64 1, .string (Tq.pk (k + 1)), .string ⟨#[]⟩, .int .i64 0, .int .i64 0] 35)) (.slice ua4 (k + 1) uc4) (.slice da k dc) k ∧ (w5.alloc (.cells #[.int .i64 1, .string (Tq.pk (k + 1)), .string ⟨#[]⟩, .int .i64 0, .int .i64 0] 35)).ownsRow w5.heap.size 35 5 (.slice (some ⟨sb, 0, none⟩) 1 1) ([Tq.mk (Tq.pk (k + 1)) 0] : List O).length (([Tq.mk (Tq.pk (k + 1)) 0] : List O).flatMap oc) ∧ w5.heap.size ≤ (w5.alloc (.cells #[.int .i64 1, .string (Tq.pk (k + 1)), .string ⟨#[]⟩, .int .i64 0, .int .i64 0] 35)).heap.size ∧ (w5.alloc (.cells #[.int .i64 1, .string (Tq.pk (k + 1)), .string ⟨#[]⟩, .int .i64 0, .int .i64 0] 35)).heap.size = w5.heap.size + 1) := ⟨H5.out.later ((Below.refl _ w5).alloc (Nat.le_refl _) _), by rw [hsb]; exact row_one12 w5 (Tq.mk (Tq.pk (k + 1)) 0), ((Below.refl w5.heap.size w5).alloc (Nat.le_refl _) (.cells #[.int .i64 1, .string (Tq.pk (k + 1)), .string ⟨#[]⟩, .int .i64 0, .int .i64 0] 35)).size, World.size_alloc _ _⟩
      go_wp2_with (at_builtin; rw [← hsb]; refine append_ops rfl _ _ rfl w5.heap.size (.slice (some ⟨sb, 0, none⟩) 1 1) (.slice da k dc) [Tq.mk (Tq.pk (k + 1)) 0] (Tq.downs k) (w5.alloc (.cells #[.int .i64 1, .string (Tq.pk (k + 1)), .string ⟨#[]⟩, .int .i64 0, .int .i64 0] 35)) rfl rfl H6.out.2.1 H6.out.2.2.1 (Ol.own H6.out.1.down) (by rw [Tq.downs_len]; simp; omega) ?_)
      clear hsb
      generalize (w5.alloc (.cells #[.int .i64 1, .string (Tq.pk (k + 1)), .string ⟨#[]⟩, .int .i64 0, .int .i64 0] 35)) = w6 at *
      intro v7 w7 hr7 hb7
      have H7 : Hid (Ud12 W w7 (.slice ua4 (k + 1) uc4) v7 (k + 1)) := by
        have hu := H6.out.1.up
        have h0 := H5.out.below.size
        have hub : ∀ j, (Value.slice ua4 (k + 1) uc4).ownBlock = some j → j < w5.heap.size := fun j e => (H5.out.up.lt j e).2
        have hr8 : w7.ownsRow w5.heap.size 35 5 v7 (Tq.downs (k + 1)).length ((Tq.downs (k + 1)).flatMap oc) := by rw [Tq.downs_more]; exact hr7
        refine ⟨H6.out.1.below.trans (hb7.mono h0), row_stays hu (fun j e => hb7.block j (hub j e)), hr8.mono h0, fun j e e2 => ?_⟩
        have := hub j e
        have := (hr8.lt j e2).1
        omega
      obtain ⟨va7, vc7, ev7, hj1, hj2⟩ := row_form hr7
      subst ev7
      clear hr7 hb7 hj1 hj2 H6 H5
      go_wp2
      go_roundw
      case rel => exact ⟨k + 1, by omega, by go_num, rfl, H7.out⟩
      case measure => simp [intOf]; omega
    · have hlt' : ¬ (k : Int) < (N : Int) := by omega
      have hkN : k = N := by omega
      subst hkN
      go_wp2_with fail
      refine (Mine11.fresh HS.out.1 20 (by decide) H1.out.below).mono ?_
      rintro e w2 ⟨q, F2, rfl, hM, hF, hb⟩
      have M2 : Hid (Mine11 LT W w2 q ⟨20, []⟩ F2 ∧ Om12 w2 F2 (.slice ua k uc) (Tq.ups k) ∧ Om12 w2 F2 (.slice da k dc) (Tq.downs k)) := ⟨hM, (Ud12.om H1.out.up hF).keep (fun j hj hl => hb.block j hl) (fun _ j hj e => by have := hF j e; have := (H1.out.up.lt j hj).2; omega), (Ud12.om H1.out.down hF).keep (fun j hj hl => hb.block j hl) (fun _ j hj e => by have := hF j e; have := (H1.out.down.lt j hj).2; omega)⟩
      clear hM hF hb H1
      unfold dptr
      go_wp2_with fail
      obtain ⟨r3, hr3⟩ : ∃ r, r = (Tq.many ⟨20, []⟩ 1 1 (Tq.downs k)).1.1 := ⟨_, rfl⟩
      have HR3 : Hid (r3.err = 4 ∧ r3.at_ = 0) := by
        rw [hr3]
        exact ⟨(Tq.order_down HN.out.1 HN.out.2).2.1, (Tq.order_down HN.out.1 HN.out.2).2.2.1⟩
      refine (M2.out.1.many HS.out.1 HS.out.2.1 HS.out.2.2 1 1 (.slice da k dc) (Tq.downs k) 0 (Tq.few_new 20) (by decide) M2.out.2.2 (Tq.downs_fit HN.out.2) (by rw [Tq.downs_len]; have := HN.out.2; omega) r3 false ⟨20, []⟩ (by rw [hr3]; exact Prod.ext (Prod.ext rfl (Tq.order_down HN.out.1 HN.out.2).1) (Tq.order_down HN.out.1 HN.out.2).2.2.2)).mono ?_
      clear hr3
      rintro e w3 ⟨F3, u3', rfl, hR, hM, hmv⟩
      obtain ⟨a3, c3, rfl⟩ := hR.form
      obtain ⟨L3, hL3⟩ : ∃ L, L = r3.xs.length := ⟨_, rfl⟩
      rw [← hL3] at hR ⊢
      clear hL3
      obtain ⟨q4, hq4⟩ : ∃ z, z = w3.heap.size := ⟨_, rfl⟩
      have M4 : Hid (Mine11 LT W (w3.alloc (.cells #[.int .i64 r3.num, .int .i64 r3.zxid, .int .i64 r3.err, .int .i64 r3.at_, .slice a3 L3 c3] 45)) q ⟨20, []⟩ F3 ∧ Rb12 (w3.alloc (.cells #[.int .i64 r3.num, .int .i64 r3.zxid, .int .i64 r3.err, .int .i64 r3.at_, .slice a3 L3 c3] 45)) F3 w2.heap.size q4 r3 (.slice a3 L3 c3) ∧ Om12 (w3.alloc (.cells #[.int .i64 r3.num, .int .i64 r3.zxid, .int .i64 r3.err, .int .i64 r3.at_, .slice a3 L3 c3] 45)) F3 (.slice ua k uc) (Tq.ups k)) := ⟨hM.later HS.out.1 ((Below.refl _ w3).alloc (Nat.le_refl _) _), by rw [hq4]; exact Rb12.made (hM.flt HS.out.1) hR, (M2.out.2.1.moved hmv).later ((Below.refl _ w3).alloc (Nat.le_refl _) _)⟩
      clear hR hM hmv M2
      unfold rpv
      go_wp2_with fail
      rw [← hq4]
      clear hq4
      generalize (w3.alloc (.cells #[.int .i64 r3.num, .int .i64 r3.zxid, .int .i64 r3.err, .int .i64 r3.at_, .slice a3 L3 c3] 45)) = w4 at *
      refine (M4.out.1.len HS.out.1).mono ?_
      rintro e w5 ⟨F5, rfl, hM, hmv⟩
      have M5 : Hid (Mine11 LT W w5 q ⟨20, []⟩ F5 ∧ Rb12 w5 F5 w2.heap.size q4 r3 (.slice a3 L3 c3) ∧ Om12 w5 F5 (.slice ua k uc) (Tq.ups k)) := ⟨hM, M4.out.2.1.moved hmv, M4.out.2.2.moved hmv⟩
      clear hM hmv M4
      simp only [List.length_nil]
      go_wp2_with fail
      obtain ⟨r6, hr6⟩ : ∃ r, r = (Tq.many ⟨20, []⟩ 1 2 (Tq.ups k)).1.1 := ⟨_, rfl⟩
      obtain ⟨t6, ht6⟩ : ∃ r, r = (Tq.many ⟨20, []⟩ 1 2 (Tq.ups k)).2 := ⟨_, rfl⟩
      have HR6 : Hid (r6.err = 0 ∧ t6.l.length = k) := by
        rw [hr6, ht6]
        exact ⟨(Tq.order_up HN.out.1 HN.out.2).2.1, (Tq.order_up HN.out.1 HN.out.2).2.2⟩
      refine (M5.out.1.many HS.out.1 HS.out.2.1 HS.out.2.2 1 2 (.slice ua k uc) (Tq.ups k) 0 (Tq.few_new 20) (by decide) M5.out.2.2 (Tq.ups_fit HN.out.2) (by rw [Tq.ups_len]; have := HN.out.2; omega) r6 true t6 (by rw [hr6, ht6]; exact Prod.ext (Prod.ext rfl (Tq.order_up HN.out.1 HN.out.2).1) rfl)).mono ?_
      clear hr6 ht6
      rintro e w6 ⟨F6, u6, rfl, hR, hM, hmv⟩
      obtain ⟨a6, c6, rfl⟩ := hR.form
      obtain ⟨L6, hL6⟩ : ∃ L, L = r6.xs.length := ⟨_, rfl⟩
      rw [← hL6] at hR ⊢
      clear hL6
      obtain ⟨q7, hq7⟩ : ∃ z, z = w6.heap.size := ⟨_, rfl⟩
      have M7 : Hid (Mine11 LT W (w6.alloc (.cells #[.int .i64 r6.num, .int .i64 r6.zxid, .int .i64 r6.err, .int .i64 r6.at_, .slice a6 L6 c6] 45)) q t6 F6 ∧ Rb12 (w6.alloc (.cells #[.int .i64 r6.num, .int .i64 r6.zxid, .int .i64 r6.err, .int .i64 r6.at_, .slice a6 L6 c6] 45)) F6 w2.heap.size q4 r3 (.slice a3 L3 c3) ∧ Rb12 (w6.alloc (.cells #[.int .i64 r6.num, .int .i64 r6.zxid, .int .i64 r6.err, .int .i64 r6.at_, .slice a6 L6 c6] 45)) F6 w5.heap.size q7 r6 (.slice a6 L6 c6)) := ⟨hM.later HS.out.1 ((Below.refl _ w6).alloc (Nat.le_refl _) _), (M5.out.2.1.moved hmv).later ((Below.refl _ w6).alloc (Nat.le_refl _) _), by rw [hq7]; exact Rb12.made (hM.flt HS.out.1) hR⟩
      clear hR hM hmv M5
      unfold rpv
      go_upto_region 17 with fail
      rw [← hq7]
      clear hq7
      generalize (w6.alloc (.cells #[.int .i64 r6.num, .int .i64 r6.zxid, .int .i64 r6.err, .int .i64 r6.at_, .slice a6 L6 c6] 45)) = w7 at *
      have p2 : w7.cell? ⟨q4, 2, none⟩ = some (.int .i64 4) := by rw [← HR3.out.1]; exact (M7.out.2.1.blk.cb.cell 2).trans rfl
      have p3 : w7.cell? ⟨q4, 3, none⟩ = some (.int .i64 0) := by rw [← HR3.out.2]; exact (M7.out.2.1.blk.cb.cell 3).trans rfl
      have s2 : w7.cell? ⟨q7, 2, none⟩ = some (.int .i64 0) := by rw [← HR6.out.1]; exact (M7.out.2.2.blk.cb.cell 2).trans rfl
      go_wp2_with fail
      refine (M7.out.1.len HS.out.1).mono ?_
      rintro e w8 ⟨F8, rfl, hM, hmv⟩
      have HL : Hid (Below W.heap.size W w8) := hM.below
      have hl : (t6.l.length : Int) = (k : Int) := by rw [HR6.out.2]
      rw [hl]
      clear hl hM hmv p2 p3 s2
      go_wp2
      go_ret
      exact ⟨rfl, HL.out⟩
end Go.Proofs.YtfcbdjjbchcpjaaDoor
