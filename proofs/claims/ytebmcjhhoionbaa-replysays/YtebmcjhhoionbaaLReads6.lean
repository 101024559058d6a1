/- The walk of the statement ReplyReads, over what reply's calls answer: it answers true. -/
import Derived.Test.YtebmcjhhoionbaaLAwake6
import Derived.Test.YtebmcjhhoionbaaRGetR
import Derived.Test.YtebmcjhhoionbaaROne
namespace Go.Proofs.Ytebmcjhhoionbaa
open Go.RowKit

/-- Two replies that were boxed. -/
def S10 (q q' : Nat) (r r' : Rp) (u u' : Value) (w : World) : Prop :=
  (w.cell? ⟨q, 0, none⟩ = some (.int .i64 r.num) ∧ w.cell? ⟨q, 1, none⟩ = some (.int .i64 r.zxid) ∧ w.cell? ⟨q, 2, none⟩ = some (.int .i64 r.err) ∧ w.cell? ⟨q, 3, none⟩ = some (.int .i64 r.at_) ∧ w.cell? ⟨q, 4, none⟩ = some u) ∧
  (w.cell? ⟨q', 0, none⟩ = some (.int .i64 r'.num) ∧ w.cell? ⟨q', 1, none⟩ = some (.int .i64 r'.zxid) ∧ w.cell? ⟨q', 2, none⟩ = some (.int .i64 r'.err) ∧ w.cell? ⟨q', 3, none⟩ = some (.int .i64 r'.at_) ∧ w.cell? ⟨q', 4, none⟩ = some u')
theorem S10.of {q q' : Nat} {r r' : Rp} {u u' : Value} {w : World} (h : BoxR w q r u) (h' : BoxR w q' r' u') : S10 q q' r r' u u' w := ⟨h.all, h'.all⟩

set_option maxRecDepth 20000 in
set_option maxHeartbeats 4000000 in
theorem reads_any6 (hs : Specs6) (v : Value) (b : List UInt8) (w : World) (hb : Bs w v b) (hl : b.length ≤ maxLen) :
    Calls Try.prog 5 #[v] w fun e w' => e = .returned (.bool true) ∧ Below w.heap.size w w' := by
  have HS : Hid Specs6 := hs
  have HV : Hid (Bs w v b ∧ b.length ≤ maxLen) := ⟨hb, hl⟩
  obtain ⟨av, nv, cv, rfl, hnv, hX⟩ := hb
  have HNV : Hid (nv = b.length) := hnv
  have hn1 : nv ≤ 9223372036854775807 := by unfold maxLen at hl; omega
  clear hs hl hnv hX
  go_enter Try.func5, Try.ntmps5
  go_wp2_with fail
  refine (awake_any6 HS.out _).mono ?_
  rintro e w1 ⟨rfl, hb⟩
  have HB1 : Hid (Below w.heap.size w w1) := hb
  clear hb
  by_cases h3 : 3000 < nv
  · have h3' : (3000 : Int) < (nv : Int) := by omega
    go_wp2
    go_ret
    exact ⟨rfl, HB1.out⟩
  · have h3' : ¬ (3000 : Int) < (nv : Int) := by omega
    have HL : Hid (b.length ≤ 3000) := by have := HNV.out; exact (by omega : b.length ≤ 3000)
    go_wp2_with fail
    refine (HS.out.get _ b _ (HV.out.1.below HB1.out) (by have := HL.out; omega)).mono ?_
    rintro e w2 ⟨hb, hcase⟩
    have HB2 : Hid (Below w.heap.size w w2) := HB1.out.trans (hb.mono HB1.out.size)
    clear hb
    rcases hcase with ⟨r, u, rfl, hu, his⟩ | ⟨u, rfl, hu, hno⟩
    · have HU2 : Hid (Rl w2 u r.xs ∧ Rq.Is b r) := ⟨hu, his⟩
      have HFW : Hid (r.xs.length ≤ maxLen ∧ Few r.xs) := ⟨by have := his.few; unfold maxLen; omega, few_is his⟩
      clear his
      obtain ⟨au, mu, cu, rfl, hXX⟩ := hu
      clear hXX
      unfold rv
      have hal : Below w2.heap.size w2 (w2.alloc (.cells #[.int .i64 r.num, .int .i64 r.zxid, .int .i64 r.err, .int .i64 r.at_, .slice au mu cu] 26)) := (Below.refl _ w2).alloc (Nat.le_refl _) _
      have HB3 : Hid (Below w.heap.size w (w2.alloc (.cells #[.int .i64 r.num, .int .i64 r.zxid, .int .i64 r.err, .int .i64 r.at_, .slice au mu cu] 26))) := HB2.out.trans (hal.mono HB2.out.size)
      have HU3 : Hid (Rl (w2.alloc (.cells #[.int .i64 r.num, .int .i64 r.zxid, .int .i64 r.err, .int .i64 r.at_, .slice au mu cu] 26)) (.slice au mu cu) r.xs) := HU2.out.1.below hal
      have HX3 : Hid (BoxR (w2.alloc (.cells #[.int .i64 r.num, .int .i64 r.zxid, .int .i64 r.err, .int .i64 r.at_, .slice au mu cu] 26)) w2.heap.size r (.slice au mu cu)) := BoxR.made w2 r _ _
      clear hal
      go_wp2_with fail
      obtain ⟨q2, hq2⟩ : ∃ q, q = w2.heap.size := ⟨_, rfl⟩
      rw [← hq2] at HX3 ⊢
      clear hq2
      generalize (w2.alloc (.cells #[.int .i64 r.num, .int .i64 r.zxid, .int .i64 r.err, .int .i64 r.at_, .slice au mu cu] 26)) = w3 at *
      refine (refGetR_any _ b _ (HV.out.1.below HB3.out) (by have := HL.out; omega)).mono ?_
      rintro e w4 ⟨hb, hcase⟩
      have HB4 : Hid (Below w.heap.size w w4) := HB3.out.trans (hb.mono HB3.out.size)
      have HU4 : Hid (Rl w4 (.slice au mu cu) r.xs) := HU3.out.below hb
      have HX4 : Hid (BoxR w4 q2 r (.slice au mu cu)) := HX3.out.below hb
      clear hb
      obtain ⟨u4, rfl, hu4⟩ : ∃ u4, e = .returned (.tuple #[rv r u4, .bool true]) ∧ Rl w4 u4 r.xs := by
        rcases hcase with ⟨r', u', he, hu', his'⟩ | ⟨_, hno⟩
        · obtain rfl := Rq.is_inj his' HU2.out.2
          exact ⟨u', he, hu'⟩
        · exact absurd HU2.out.2 (hno _)
      have HW4 : Hid (Rl w4 u4 r.xs) := hu4
      clear hcase
      obtain ⟨a4, m4, c4, rfl, hXX⟩ := hu4
      clear hXX
      unfold rv
      have hal : Below w4.heap.size w4 (w4.alloc (.cells #[.int .i64 r.num, .int .i64 r.zxid, .int .i64 r.err, .int .i64 r.at_, .slice a4 m4 c4] 40)) := (Below.refl _ w4).alloc (Nat.le_refl _) _
      have HB5 : Hid (Below w.heap.size w (w4.alloc (.cells #[.int .i64 r.num, .int .i64 r.zxid, .int .i64 r.err, .int .i64 r.at_, .slice a4 m4 c4] 40))) := HB4.out.trans (hal.mono HB4.out.size)
      have HU5 : Hid (Rl (w4.alloc (.cells #[.int .i64 r.num, .int .i64 r.zxid, .int .i64 r.err, .int .i64 r.at_, .slice a4 m4 c4] 40)) (.slice au mu cu) r.xs) := HU4.out.below hal
      have HX5 : Hid (BoxR (w4.alloc (.cells #[.int .i64 r.num, .int .i64 r.zxid, .int .i64 r.err, .int .i64 r.at_, .slice a4 m4 c4] 40)) q2 r (.slice au mu cu)) := HX4.out.below hal
      have HW5 : Hid (Rl (w4.alloc (.cells #[.int .i64 r.num, .int .i64 r.zxid, .int .i64 r.err, .int .i64 r.at_, .slice a4 m4 c4] 40)) (.slice a4 m4 c4) r.xs) := HW4.out.below hal
      have HY5 : Hid (BoxR (w4.alloc (.cells #[.int .i64 r.num, .int .i64 r.zxid, .int .i64 r.err, .int .i64 r.at_, .slice a4 m4 c4] 40)) w4.heap.size r (.slice a4 m4 c4)) := BoxR.made w4 r _ _
      clear hal
      go_upto_region 7 with fail
      obtain ⟨q4, hq4⟩ : ∃ q, q = w4.heap.size := ⟨_, rfl⟩
      rw [← hq4] at HY5 ⊢
      clear hq4
      generalize (w4.alloc (.cells #[.int .i64 r.num, .int .i64 r.zxid, .int .i64 r.err, .int .i64 r.at_, .slice a4 m4 c4] 40)) = w5 at *
      have HB6 : Hid (Below w.heap.size w w5.drew) := HB5.out.drew
      have HX6 : Hid (BoxR w5.drew q2 r (.slice au mu cu) ∧ BoxR w5.drew q4 r (.slice a4 m4 c4)) := ⟨HX5.out.below (Below.refl _ w5).drew, HY5.out.below (Below.refl _ w5).drew⟩
      have HU6 : Hid (Rl w5.drew (.slice au mu cu) r.xs ∧ Rl w5.drew (.slice a4 m4 c4) r.xs) := ⟨HU5.out.below (Below.refl _ w5).drew, HW5.out.below (Below.refl _ w5).drew⟩
      refine wp_region_held_drew (S := S10 q2 q4 r r (.slice au mu cu) (.slice a4 m4 c4)) (by kernel_rfl) (S10.of HX6.out.1 HX6.out.2) (fun hHeld => ?_)
      generalize w5.drew = w6 at *
      refine' take_at (i := 0) (d := 22) (v := _) rfl rfl (by kernel_rfl) (by kernel_rfl) (by kernel_rfl) (fun _ _ _ h => h) (Or.inl ⟨by rfl, ?h0⟩) (by assumption) ?_
      case h0 => intro w hSw; unfold S10 at hSw; go_simp; with_reducible rfl
      simp only [List.setIfInBounds_toArray, List.set_cons_zero, List.set_cons_succ]
      refine' take_at (i := 1) (d := 23) (v := _) rfl rfl (by kernel_rfl) (by kernel_rfl) (by kernel_rfl) (fun _ _ _ h => h) (Or.inl ⟨by rfl, ?h1⟩) (by assumption) ?_
      case h1 => intro w hSw; unfold S10 at hSw; go_simp; with_reducible rfl
      simp only [List.setIfInBounds_toArray, List.set_cons_zero, List.set_cons_succ]
      refine' take_at (i := 2) (d := 24) (v := _) rfl rfl (by kernel_rfl) (by kernel_rfl) (by kernel_rfl) (fun _ _ _ h => h) (Or.inl ⟨by rfl, ?h2⟩) (by assumption) ?_
      case h2 => intro w hSw; unfold S10 at hSw; go_simp; with_reducible rfl
      simp only [List.setIfInBounds_toArray, List.set_cons_zero, List.set_cons_succ]
      refine' take_at (i := 3) (d := 25) (v := _) rfl rfl (by kernel_rfl) (by kernel_rfl) (by kernel_rfl) (fun _ _ _ h => h) (Or.inl ⟨by rfl, ?h3⟩) (by assumption) ?_
      case h3 => intro w hSw; unfold S10 at hSw; go_simp; with_reducible rfl
      simp only [List.setIfInBounds_toArray, List.set_cons_zero, List.set_cons_succ]
      refine' take_at (i := 4) (d := 26) (v := _) rfl rfl (by kernel_rfl) (by kernel_rfl) (by kernel_rfl) (fun _ _ _ h => h) (Or.inl ⟨by rfl, ?h4⟩) (by assumption) ?_
      case h4 => intro w hSw; unfold S10 at hSw; go_simp; with_reducible rfl
      simp only [List.setIfInBounds_toArray, List.set_cons_zero, List.set_cons_succ]
      refine' take_at (i := 5) (d := 27) (v := _) rfl rfl (by kernel_rfl) (by kernel_rfl) (by kernel_rfl) (fun _ _ _ h => h) (Or.inl ⟨by rfl, ?h5⟩) (by assumption) ?_
      case h5 => intro w hSw; unfold S10 at hSw; go_simp; with_reducible rfl
      simp only [List.setIfInBounds_toArray, List.set_cons_zero, List.set_cons_succ]
      refine' take_at (i := 6) (d := 28) (v := _) rfl rfl (by kernel_rfl) (by kernel_rfl) (by kernel_rfl) (fun _ _ _ h => h) (Or.inl ⟨by rfl, ?h6⟩) (by assumption) ?_
      case h6 => intro w hSw; unfold S10 at hSw; go_simp; with_reducible rfl
      simp only [List.setIfInBounds_toArray, List.set_cons_zero, List.set_cons_succ]
      refine' take_at (i := 7) (d := 29) (v := undef) rfl rfl (by kernel_rfl) (by kernel_rfl) (by kernel_rfl) (fun _ _ _ h => h) (Or.inr ⟨by rfl, rfl⟩) (by assumption) ?_
      simp only [List.setIfInBounds_toArray, List.set_cons_zero, List.set_cons_succ]
      refine' take_at (i := 8) (d := 30) (v := undef) rfl rfl (by kernel_rfl) (by kernel_rfl) (by kernel_rfl) (fun _ _ _ h => h) (Or.inr ⟨by rfl, rfl⟩) (by assumption) ?_
      simp only [List.setIfInBounds_toArray, List.set_cons_zero, List.set_cons_succ]
      refine' take_at (i := 9) (d := 31) (v := _) rfl rfl (by kernel_rfl) (by kernel_rfl) (by kernel_rfl) (fun _ _ _ h => h) (Or.inl ⟨by rfl, ?h9⟩) (by assumption) ?_
      case h9 => intro w hSw; unfold S10 at hSw; go_simp; with_reducible rfl
      simp only [List.setIfInBounds_toArray, List.set_cons_zero, List.set_cons_succ]
      refine' take_at (i := 10) (d := 32) (v := _) rfl rfl (by kernel_rfl) (by kernel_rfl) (by kernel_rfl) (fun _ _ _ h => h) (Or.inl ⟨by rfl, ?h10⟩) (by assumption) ?_
      case h10 => intro w hSw; unfold S10 at hSw; go_simp; with_reducible rfl
      simp only [List.setIfInBounds_toArray, List.set_cons_zero, List.set_cons_succ]
      refine' take_at (i := 11) (d := 33) (v := _) rfl rfl (by kernel_rfl) (by kernel_rfl) (by kernel_rfl) (fun _ _ _ h => h) (Or.inl ⟨by rfl, ?h11⟩) (by assumption) ?_
      case h11 => intro w hSw; unfold S10 at hSw; go_simp; with_reducible rfl
      simp only [List.setIfInBounds_toArray, List.set_cons_zero, List.set_cons_succ]
      refine' take_at (i := 12) (d := 34) (v := _) rfl rfl (by kernel_rfl) (by kernel_rfl) (by kernel_rfl) (fun _ _ _ h => h) (Or.inl ⟨by rfl, ?h12⟩) (by assumption) ?_
      case h12 => intro w hSw; unfold S10 at hSw; go_simp; with_reducible rfl
      simp only [List.setIfInBounds_toArray, List.set_cons_zero, List.set_cons_succ]
      refine' take_at (i := 14) (d := 36) (v := _) rfl rfl (by kernel_rfl) (by kernel_rfl) (by kernel_rfl) (fun _ _ _ h => h) (Or.inl ⟨by rfl, ?h14⟩) (by assumption) ?_
      case h14 => intro w hSw; unfold S10 at hSw; go_simp; with_reducible rfl
      simp only [List.setIfInBounds_toArray, List.set_cons_zero, List.set_cons_succ]
      refine wpAnyH_ready (rs := [13]) (by kernel_rfl) (by simp) ?_
      refine AllReadyH.cons (o := _) rfl (fun K hK => ?_) AllReadyH.nil
      go_simp
      refine (rp_any r (.slice au mu cu) _ HU6.out.1).mono ?_
      rintro e w7 ⟨rfl, hb⟩
      have HB7 : Hid (Below w.heap.size w w7) := HB6.out.trans (hb.mono HB6.out.size)
      have HX7 : Hid (BoxR w7 q2 r (.slice au mu cu) ∧ BoxR w7 q4 r (.slice a4 m4 c4)) := ⟨HX6.out.1.below hb, HX6.out.2.below hb⟩
      have HU7 : Hid (Rl w7 (.slice au mu cu) r.xs ∧ Rl w7 (.slice a4 m4 c4) r.xs) := ⟨HU6.out.1.below hb, HU6.out.2.below hb⟩
      clear hb
      unfold rv
      simp only []
      refine hK.out _ _ (S10.of HX7.out.1 HX7.out.2) (fun hHeld2 => ?_)
      clear hK K hHeld
      refine wpAnyH_ready (rs := [15]) (by kernel_rfl) (by simp) ?_
      refine AllReadyH.cons (o := _) rfl (fun K hK => ?_) AllReadyH.nil
      go_simp
      refine (refSameR_any True r r (.slice au mu cu) (.slice a4 m4 c4) _ HU7.out.1 HU7.out.2 HFW.out.1 HFW.out.1 HFW.out.2 HFW.out.2 ⟨fun _ => rfl, fun _ => trivial⟩).mono ?_
      rintro e w8 ⟨R0, rfl, hR, hb⟩
      have hR1 : R0 = true := hR.2 trivial
      subst hR1
      have HB8 : Hid (Below w.heap.size w w8) := HB7.out.trans (hb.mono HB7.out.size)
      have HX8 : Hid (BoxR w8 q2 r (.slice au mu cu) ∧ BoxR w8 q4 r (.slice a4 m4 c4)) := ⟨HX7.out.1.below hb, HX7.out.2.below hb⟩
      clear hb hR
      simp only []
      refine hK.out _ _ (S10.of HX8.out.1 HX8.out.2) (fun hHeld => ?_)
      clear hK K hHeld2
      refine' take_at (i := 16) (d := 38) (v := _) rfl rfl (by kernel_rfl) (by kernel_rfl) (by kernel_rfl) (fun _ _ _ h => h) (Or.inl ⟨by rfl, ?h16⟩) (by assumption) ?_
      case h16 => intro w hSw; unfold S10 at hSw; go_simp; with_reducible rfl
      simp only [List.setIfInBounds_toArray, List.set_cons_zero, List.set_cons_succ]
      refine' take_at (i := 17) (d := 2) (v := _) rfl rfl (by kernel_rfl) (by kernel_rfl) (by kernel_rfl) (fun _ _ _ h => h) (Or.inl ⟨by rfl, ?h17⟩) (by assumption) ?_
      case h17 => intro w hSw; unfold S10 at hSw; go_simp; with_reducible rfl
      simp only [List.setIfInBounds_toArray, List.set_cons_zero, List.set_cons_succ]
      refine wpAnyH_done (by kernel_rfl) ?_ _
      clear hHeld
      go_wp2
      go_ret
      exact ⟨rfl, HB8.out⟩
    · have HU2 : Hid (Rl w2 u Rq.zero.xs ∧ ∀ r, ¬ Rq.Is b r) := ⟨hu, hno⟩
      have HFW : Hid (Rq.zero.xs.length ≤ maxLen ∧ Few Rq.zero.xs) := ⟨Nat.zero_le _, few_nil⟩
      clear hno
      obtain ⟨au, mu, cu, rfl, hXX⟩ := hu
      clear hXX
      unfold rv
      have hal : Below w2.heap.size w2 (w2.alloc (.cells #[.int .i64 Rq.zero.num, .int .i64 Rq.zero.zxid, .int .i64 Rq.zero.err, .int .i64 Rq.zero.at_, .slice au mu cu] 26)) := (Below.refl _ w2).alloc (Nat.le_refl _) _
      have HB3 : Hid (Below w.heap.size w (w2.alloc (.cells #[.int .i64 Rq.zero.num, .int .i64 Rq.zero.zxid, .int .i64 Rq.zero.err, .int .i64 Rq.zero.at_, .slice au mu cu] 26))) := HB2.out.trans (hal.mono HB2.out.size)
      have HU3 : Hid (Rl (w2.alloc (.cells #[.int .i64 Rq.zero.num, .int .i64 Rq.zero.zxid, .int .i64 Rq.zero.err, .int .i64 Rq.zero.at_, .slice au mu cu] 26)) (.slice au mu cu) Rq.zero.xs) := HU2.out.1.below hal
      have HX3 : Hid (BoxR (w2.alloc (.cells #[.int .i64 Rq.zero.num, .int .i64 Rq.zero.zxid, .int .i64 Rq.zero.err, .int .i64 Rq.zero.at_, .slice au mu cu] 26)) w2.heap.size Rq.zero (.slice au mu cu)) := BoxR.made w2 Rq.zero _ _
      clear hal
      go_wp2_with fail
      obtain ⟨q2, hq2⟩ : ∃ q, q = w2.heap.size := ⟨_, rfl⟩
      rw [← hq2] at HX3 ⊢
      clear hq2
      generalize (w2.alloc (.cells #[.int .i64 Rq.zero.num, .int .i64 Rq.zero.zxid, .int .i64 Rq.zero.err, .int .i64 Rq.zero.at_, .slice au mu cu] 26)) = w3 at *
      refine (refGetR_any _ b _ (HV.out.1.below HB3.out) (by have := HL.out; omega)).mono ?_
      rintro e w4 ⟨hb, hcase⟩
      have HB4 : Hid (Below w.heap.size w w4) := HB3.out.trans (hb.mono HB3.out.size)
      have HU4 : Hid (Rl w4 (.slice au mu cu) Rq.zero.xs) := HU3.out.below hb
      have HX4 : Hid (BoxR w4 q2 Rq.zero (.slice au mu cu)) := HX3.out.below hb
      clear hb
      obtain ⟨u4, rfl, hu4⟩ : ∃ u4, e = .returned (.tuple #[rv Rq.zero u4, .bool false]) ∧ Rl w4 u4 Rq.zero.xs := by
        rcases hcase with ⟨r', u', he, hu', his'⟩ | ⟨he, _⟩
        · exact absurd his' (HU2.out.2 _)
        · exact ⟨_, he, Rl.nil w4⟩
      have HW4 : Hid (Rl w4 u4 Rq.zero.xs) := hu4
      clear hcase
      obtain ⟨a4, m4, c4, rfl, hXX⟩ := hu4
      clear hXX
      unfold rv
      have hal : Below w4.heap.size w4 (w4.alloc (.cells #[.int .i64 Rq.zero.num, .int .i64 Rq.zero.zxid, .int .i64 Rq.zero.err, .int .i64 Rq.zero.at_, .slice a4 m4 c4] 40)) := (Below.refl _ w4).alloc (Nat.le_refl _) _
      have HB5 : Hid (Below w.heap.size w (w4.alloc (.cells #[.int .i64 Rq.zero.num, .int .i64 Rq.zero.zxid, .int .i64 Rq.zero.err, .int .i64 Rq.zero.at_, .slice a4 m4 c4] 40))) := HB4.out.trans (hal.mono HB4.out.size)
      have HU5 : Hid (Rl (w4.alloc (.cells #[.int .i64 Rq.zero.num, .int .i64 Rq.zero.zxid, .int .i64 Rq.zero.err, .int .i64 Rq.zero.at_, .slice a4 m4 c4] 40)) (.slice au mu cu) Rq.zero.xs) := HU4.out.below hal
      have HX5 : Hid (BoxR (w4.alloc (.cells #[.int .i64 Rq.zero.num, .int .i64 Rq.zero.zxid, .int .i64 Rq.zero.err, .int .i64 Rq.zero.at_, .slice a4 m4 c4] 40)) q2 Rq.zero (.slice au mu cu)) := HX4.out.below hal
      have HW5 : Hid (Rl (w4.alloc (.cells #[.int .i64 Rq.zero.num, .int .i64 Rq.zero.zxid, .int .i64 Rq.zero.err, .int .i64 Rq.zero.at_, .slice a4 m4 c4] 40)) (.slice a4 m4 c4) Rq.zero.xs) := HW4.out.below hal
      have HY5 : Hid (BoxR (w4.alloc (.cells #[.int .i64 Rq.zero.num, .int .i64 Rq.zero.zxid, .int .i64 Rq.zero.err, .int .i64 Rq.zero.at_, .slice a4 m4 c4] 40)) w4.heap.size Rq.zero (.slice a4 m4 c4)) := BoxR.made w4 Rq.zero _ _
      clear hal
      go_upto_region 7 with fail
      obtain ⟨q4, hq4⟩ : ∃ q, q = w4.heap.size := ⟨_, rfl⟩
      rw [← hq4] at HY5 ⊢
      clear hq4
      generalize (w4.alloc (.cells #[.int .i64 Rq.zero.num, .int .i64 Rq.zero.zxid, .int .i64 Rq.zero.err, .int .i64 Rq.zero.at_, .slice a4 m4 c4] 40)) = w5 at *
      have HB6 : Hid (Below w.heap.size w w5.drew) := HB5.out.drew
      have HX6 : Hid (BoxR w5.drew q2 Rq.zero (.slice au mu cu) ∧ BoxR w5.drew q4 Rq.zero (.slice a4 m4 c4)) := ⟨HX5.out.below (Below.refl _ w5).drew, HY5.out.below (Below.refl _ w5).drew⟩
      have HU6 : Hid (Rl w5.drew (.slice au mu cu) Rq.zero.xs ∧ Rl w5.drew (.slice a4 m4 c4) Rq.zero.xs) := ⟨HU5.out.below (Below.refl _ w5).drew, HW5.out.below (Below.refl _ w5).drew⟩
      refine wp_region_held_drew (S := S10 q2 q4 Rq.zero Rq.zero (.slice au mu cu) (.slice a4 m4 c4)) (by kernel_rfl) (S10.of HX6.out.1 HX6.out.2) (fun hHeld => ?_)
      generalize w5.drew = w6 at *
      refine' take_at (i := 0) (d := 22) (v := _) rfl rfl (by kernel_rfl) (by kernel_rfl) (by kernel_rfl) (fun _ _ _ h => h) (Or.inl ⟨by rfl, ?h0⟩) (by assumption) ?_
      case h0 => intro w hSw; unfold S10 at hSw; go_simp; with_reducible rfl
      simp only [List.setIfInBounds_toArray, List.set_cons_zero, List.set_cons_succ]
      refine' take_at (i := 1) (d := 23) (v := _) rfl rfl (by kernel_rfl) (by kernel_rfl) (by kernel_rfl) (fun _ _ _ h => h) (Or.inl ⟨by rfl, ?h1⟩) (by assumption) ?_
      case h1 => intro w hSw; unfold S10 at hSw; go_simp; with_reducible rfl
      simp only [List.setIfInBounds_toArray, List.set_cons_zero, List.set_cons_succ]
      refine' take_at (i := 2) (d := 24) (v := _) rfl rfl (by kernel_rfl) (by kernel_rfl) (by kernel_rfl) (fun _ _ _ h => h) (Or.inl ⟨by rfl, ?h2⟩) (by assumption) ?_
      case h2 => intro w hSw; unfold S10 at hSw; go_simp; with_reducible rfl
      simp only [List.setIfInBounds_toArray, List.set_cons_zero, List.set_cons_succ]
      refine' take_at (i := 3) (d := 25) (v := _) rfl rfl (by kernel_rfl) (by kernel_rfl) (by kernel_rfl) (fun _ _ _ h => h) (Or.inl ⟨by rfl, ?h3⟩) (by assumption) ?_
      case h3 => intro w hSw; unfold S10 at hSw; go_simp; with_reducible rfl
      simp only [List.setIfInBounds_toArray, List.set_cons_zero, List.set_cons_succ]
      refine' take_at (i := 4) (d := 26) (v := _) rfl rfl (by kernel_rfl) (by kernel_rfl) (by kernel_rfl) (fun _ _ _ h => h) (Or.inl ⟨by rfl, ?h4⟩) (by assumption) ?_
      case h4 => intro w hSw; unfold S10 at hSw; go_simp; with_reducible rfl
      simp only [List.setIfInBounds_toArray, List.set_cons_zero, List.set_cons_succ]
      refine' take_at (i := 5) (d := 27) (v := _) rfl rfl (by kernel_rfl) (by kernel_rfl) (by kernel_rfl) (fun _ _ _ h => h) (Or.inl ⟨by rfl, ?h5⟩) (by assumption) ?_
      case h5 => intro w hSw; unfold S10 at hSw; go_simp; with_reducible rfl
      simp only [List.setIfInBounds_toArray, List.set_cons_zero, List.set_cons_succ]
      refine' take_at (i := 6) (d := 28) (v := _) rfl rfl (by kernel_rfl) (by kernel_rfl) (by kernel_rfl) (fun _ _ _ h => h) (Or.inl ⟨by rfl, ?h6⟩) (by assumption) ?_
      case h6 => intro w hSw; unfold S10 at hSw; go_simp; with_reducible rfl
      simp only [List.setIfInBounds_toArray, List.set_cons_zero, List.set_cons_succ]
      refine' take_at (i := 7) (d := 29) (v := _) rfl rfl (by kernel_rfl) (by kernel_rfl) (by kernel_rfl) (fun _ _ _ h => h) (Or.inl ⟨by rfl, ?h7⟩) (by assumption) ?_
      case h7 => intro w hSw; unfold S10 at hSw; go_simp; with_reducible rfl
      simp only [List.setIfInBounds_toArray, List.set_cons_zero, List.set_cons_succ]
      refine' take_at (i := 8) (d := 30) (v := _) rfl rfl (by kernel_rfl) (by kernel_rfl) (by kernel_rfl) (fun _ _ _ h => h) (Or.inl ⟨by rfl, ?h8⟩) (by assumption) ?_
      case h8 => intro w hSw; unfold S10 at hSw; go_simp; with_reducible rfl
      simp only [List.setIfInBounds_toArray, List.set_cons_zero, List.set_cons_succ]
      refine' take_at (i := 9) (d := 31) (v := _) rfl rfl (by kernel_rfl) (by kernel_rfl) (by kernel_rfl) (fun _ _ _ h => h) (Or.inl ⟨by rfl, ?h9⟩) (by assumption) ?_
      case h9 => intro w hSw; unfold S10 at hSw; go_simp; with_reducible rfl
      simp only [List.setIfInBounds_toArray, List.set_cons_zero, List.set_cons_succ]
      refine' take_at (i := 10) (d := 32) (v := _) rfl rfl (by kernel_rfl) (by kernel_rfl) (by kernel_rfl) (fun _ _ _ h => h) (Or.inl ⟨by rfl, ?h10⟩) (by assumption) ?_
      case h10 => intro w hSw; unfold S10 at hSw; go_simp; with_reducible rfl
      simp only [List.setIfInBounds_toArray, List.set_cons_zero, List.set_cons_succ]
      refine' take_at (i := 11) (d := 33) (v := _) rfl rfl (by kernel_rfl) (by kernel_rfl) (by kernel_rfl) (fun _ _ _ h => h) (Or.inl ⟨by rfl, ?h11⟩) (by assumption) ?_
      case h11 => intro w hSw; unfold S10 at hSw; go_simp; with_reducible rfl
      simp only [List.setIfInBounds_toArray, List.set_cons_zero, List.set_cons_succ]
      refine' take_at (i := 12) (d := 34) (v := _) rfl rfl (by kernel_rfl) (by kernel_rfl) (by kernel_rfl) (fun _ _ _ h => h) (Or.inl ⟨by rfl, ?h12⟩) (by assumption) ?_
      case h12 => intro w hSw; unfold S10 at hSw; go_simp; with_reducible rfl
      simp only [List.setIfInBounds_toArray, List.set_cons_zero, List.set_cons_succ]
      refine' take_at (i := 14) (d := 36) (v := _) rfl rfl (by kernel_rfl) (by kernel_rfl) (by kernel_rfl) (fun _ _ _ h => h) (Or.inl ⟨by rfl, ?h14⟩) (by assumption) ?_
      case h14 => intro w hSw; unfold S10 at hSw; go_simp; with_reducible rfl
      simp only [List.setIfInBounds_toArray, List.set_cons_zero, List.set_cons_succ]
      refine wpAnyH_ready (rs := [13]) (by kernel_rfl) (by simp) ?_
      refine AllReadyH.cons (o := _) rfl (fun K hK => ?_) AllReadyH.nil
      go_simp
      refine (rp_any Rq.zero (.slice au mu cu) _ HU6.out.1).mono ?_
      rintro e w7 ⟨rfl, hb⟩
      have HB7 : Hid (Below w.heap.size w w7) := HB6.out.trans (hb.mono HB6.out.size)
      have HX7 : Hid (BoxR w7 q2 Rq.zero (.slice au mu cu) ∧ BoxR w7 q4 Rq.zero (.slice a4 m4 c4)) := ⟨HX6.out.1.below hb, HX6.out.2.below hb⟩
      have HU7 : Hid (Rl w7 (.slice au mu cu) Rq.zero.xs ∧ Rl w7 (.slice a4 m4 c4) Rq.zero.xs) := ⟨HU6.out.1.below hb, HU6.out.2.below hb⟩
      clear hb
      unfold rv
      simp only []
      refine hK.out _ _ (S10.of HX7.out.1 HX7.out.2) (fun hHeld2 => ?_)
      clear hK K hHeld
      refine wpAnyH_ready (rs := [15]) (by kernel_rfl) (by simp) ?_
      refine AllReadyH.cons (o := _) rfl (fun K hK => ?_) AllReadyH.nil
      go_simp
      refine (refSameR_any True Rq.zero Rq.zero (.slice au mu cu) (.slice a4 m4 c4) _ HU7.out.1 HU7.out.2 HFW.out.1 HFW.out.1 HFW.out.2 HFW.out.2 ⟨fun _ => rfl, fun _ => trivial⟩).mono ?_
      rintro e w8 ⟨R0, rfl, hR, hb⟩
      have hR1 : R0 = true := hR.2 trivial
      subst hR1
      have HB8 : Hid (Below w.heap.size w w8) := HB7.out.trans (hb.mono HB7.out.size)
      have HX8 : Hid (BoxR w8 q2 Rq.zero (.slice au mu cu) ∧ BoxR w8 q4 Rq.zero (.slice a4 m4 c4)) := ⟨HX7.out.1.below hb, HX7.out.2.below hb⟩
      clear hb hR
      simp only []
      refine hK.out _ _ (S10.of HX8.out.1 HX8.out.2) (fun hHeld => ?_)
      clear hK K hHeld2
      refine' take_at (i := 16) (d := 38) (v := _) rfl rfl (by kernel_rfl) (by kernel_rfl) (by kernel_rfl) (fun _ _ _ h => h) (Or.inl ⟨by rfl, ?h16⟩) (by assumption) ?_
      case h16 => intro w hSw; unfold S10 at hSw; go_simp; with_reducible rfl
      simp only [List.setIfInBounds_toArray, List.set_cons_zero, List.set_cons_succ]
      refine' take_at (i := 17) (d := 2) (v := _) rfl rfl (by kernel_rfl) (by kernel_rfl) (by kernel_rfl) (fun _ _ _ h => h) (Or.inl ⟨by rfl, ?h17⟩) (by assumption) ?_
      case h17 => intro w hSw; unfold S10 at hSw; go_simp; with_reducible rfl
      simp only [List.setIfInBounds_toArray, List.set_cons_zero, List.set_cons_succ]
      refine wpAnyH_done (by kernel_rfl) ?_ _
      clear hHeld
      go_wp2
      go_ret
      exact ⟨rfl, HB8.out⟩
end Go.Proofs.Ytebmcjhhoionbaa
