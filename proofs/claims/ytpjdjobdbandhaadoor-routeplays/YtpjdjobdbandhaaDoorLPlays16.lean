/- RoutePlays' walk: the landed Table beside the document's own reckoning. -/
import Derived.Test.YtpjdjobdbandhaaDoorLAwake16
import Derived.Test.YtpjdjobdbandhaaDoorActs16
import Derived.Test.YtpjdjobdbandhaaDoorBo16
import Derived.Test.YtpjdjobdbandhaaDoorRefM16
import Derived.Test.YtpjdjobdbandhaaDoorRefS16
import Derived.Test.YtpjdjobdbandhaaDoorRefP16
namespace Go.Proofs.YtpjdjobdbandhaaDoor
open Go.RowKit

section
variable {LS : Rep16} {W w w' : World} {q r q2 : Nat} {m : Int} {s t : Tb.St} {F G F2 : Nat → Prop}
theorem mineR_move16 (h : Mine16 LRb W w r m t G) (hm : m ≤ 2199023255552) (x : ByteArray) (n : Int) (hx : x.size ≤ maxLen) (a : Int) (t' : Tb.St) (he : Tb.move t x n = (a, t')) :
    Calls Tryd.prog 19 #[dptr r, .string x, .int .i64 n] w fun e w' => ∃ G', e = .returned (.int .i64 a) ∧ Mine16 LRb W w' r (m + 1) t' G' ∧ Moved w w' G G' := by
  refine (refMove_any16 r t G m x n w h.ld h.fine hm hx).mono ?_
  have hf := h.fine.move x n
  rw [he] at hf ⊢
  rintro e w' ⟨G', rfl, hl, hv⟩
  exact ⟨G', rfl, h.step hl hf hv, hv⟩
theorem Bo16.more (S : Specs16 LS) (h : Bo16 LS LRb W w q r m s t F G) (hb : Below w.heap.size w w') : Bo16 LS LRb W w' q r m s t F G := h.later S LRb.lt LRb.keep hb
/-- Three Tables that read alike. -/
structure Tr16 (LS : Rep16) (W w : World) (q r q2 : Nat) (m : Int) (s : Tb.St) (F G F2 : Nat → Prop) : Prop where
  bo : Bo16 LS LRb W w q r m s s F G
  third : Mine16 LS W w q2 1099511627776 s F2
theorem Tr16.more (S : Specs16 LS) (h : Tr16 LS W w q r q2 m s F G F2) (hb : Below w.heap.size w w') : Tr16 LS W w' q r q2 m s F G F2 := ⟨h.bo.more S hb, h.third.later S hb⟩
end

set_option maxRecDepth 100000 in
set_option maxHeartbeats 16000000 in
theorem plays_any16 {LS : Rep16} (S : Specs16 LS) (n : Int) (v u : Value) (xs : List Tb.Ac) (p : ByteArray) (os : List O) (W : World) (hS : Pa.Std W) (hv : Acl16 W v xs) (hu : Ol W u os) (hl : xs.length ≤ maxLen) (hlo : os.length ≤ maxLen) (hok : ∀ x ∈ xs, AcOk16 x) (hpo : Paths16 os) (hp : p.size ≤ maxLen) :
    Calls Tryd.prog 4 #[.int .i64 n, v, .string p, u] W fun e w' => e = .returned (.bool true) ∧ Below W.heap.size W w' := by
  have HS : Hid (Specs16 LS ∧ Pa.Std W ∧ (∀ x ∈ xs, AcOk16 x)) := ⟨S, hS, hok⟩
  obtain ⟨av, N, c, rfl, hN, hj⟩ := hv
  have HV : Hid (Acl16 W (.slice av N c) xs ∧ N = xs.length) := ⟨⟨av, N, c, rfl, hN, hj⟩, hN⟩
  have HO9 : Hid (Ol W u os ∧ os.length ≤ maxLen ∧ Paths16 os) := ⟨hu, hlo, hpo⟩
  obtain ⟨ao, NO, co, rfl, hNO, ho2, ho3, ho4⟩ := hu
  have HO : Hid (Ol W (.slice ao NO co) os ∧ os.length ≤ maxLen ∧ Paths16 os) := HO9.out
  have HNO : Hid (NO = os.length) := hNO
  have hN63 : N ≤ 9223372036854775807 := by unfold maxLen at hl; omega
  have HT : Hid (p.size ≤ maxLen) := hp
  unfold maxLen at hp
  clear S hS hok hl hN hj hlo hpo hNO ho2 ho3 ho4 HO9
  go_enter Tryd.func4, Tryd.ntmps4
  go_wp2_with fail
  refine (awake_any16 HS.out.1 W HS.out.2.1).mono ?_
  rintro e w0 ⟨rfl, hb0⟩
  have H0 : Hid (Below W.heap.size W w0) := hb0
  clear hb0
  by_cases hr : n < 1 ∨ 4 < n
  · go_wp2_with fail
    refine (mine16_no HS.out.1 n hr w0).mono ?_
    rintro e w1 ⟨rfl, hb1⟩
    have H1 : Hid (Below W.heap.size W w1) := H0.out.trans (hb1.mono H0.out.size)
    clear hb1
    by_cases hr1 : n < 1
    · clear hr
      go_wp2
      go_ret
      exact ⟨rfl, H1.out⟩
    · have hr2 : 4 < n := hr.resolve_left hr1
      clear hr
      go_wp2
      go_ret
      exact ⟨rfl, H1.out⟩
  have hr1 : ¬ n < 1 := fun e => hr (Or.inl e)
  have hr2 : ¬ 4 < n := fun e => hr (Or.inr e)
  have HRM : Hid (1 ≤ n ∧ n ≤ 4) := ⟨by omega, by omega⟩
  clear hr
  go_wp2_with fail
  refine (mine16_new HS.out.1 H0.out n HRM.out).mono ?_
  rintro e w1 ⟨q, F1, rfl, hM, hF, hb⟩
  have M1 : Hid (Mine16 LS W w1 q 1 (Tb.new n) F1) := hM
  clear hM hF hb H0
  by_cases a3 : (60 : Int) < (N : Int)
  · go_wp2
    go_ret
    exact ⟨rfl, M1.out.below⟩
  by_cases a5 : (300 : Int) < (p.size : Int)
  · go_wp2
    go_ret
    exact ⟨rfl, M1.out.below⟩
  obtain ⟨gr, hgr⟩ : ∃ z, z = greatB os := ⟨_, rfl⟩
  have HGR : Hid (gr = greatB os) := hgr
  have HLC : Hid (Calls Tryd.prog 17 #[.slice ao NO co] w1 fun e w' => e = .returned (.bool gr) ∧ Below w1.heap.size w1 w') := by
    rw [hgr]
    exact long_any16 _ os w1 (HO.out.1.below M1.out.below) HO.out.2.1
  clear hgr
  go_wp2_with fail
  refine HLC.out.mono ?_
  rintro e w2 ⟨rfl, hb⟩
  have M2 : Hid (Mine16 LS W w2 q 1 (Tb.new n) F1) := M1.out.later HS.out.1 hb
  clear hb HLC M1
  cases gr with
  | true =>
    go_wp2
    go_ret
    exact ⟨rfl, M2.out.below⟩
  | false =>
  have HNO2 : Hid (NO ≤ 20) := (show NO ≤ 20 by
    have h := HGR.out
    unfold greatB at h
    have h1 : decide (20 < os.length) = false := by
      cases e : decide (20 < os.length) with
      | false => rfl
      | true => rw [e] at h; cases h
    have h2 := of_decide_eq_false h1
    rw [HNO.out]
    omega)
  have HA : Hid (1 ≤ n ∧ n ≤ 4 ∧ N ≤ 60 ∧ p.size ≤ 300) := ⟨HRM.out.1, HRM.out.2, by omega, by omega⟩
  go_wp2_with fail
  refine (refNew_any16 n w2).mono ?_
  rintro e w3 ⟨r, G1, rfl, hL, hG, hb⟩
  have B1 : Hid (Bo16 LS LRb W w3 q r 1 (Tb.new n) (Tb.new n) F1 G1) := by
    have hs := M2.out.below.size
    refine ⟨M2.out.later HS.out.1 hb, ⟨hL, M2.out.fine, fun k hk => by have := hG k hk; omega, M2.out.below.trans (hb.mono hs)⟩, fun k hk e => ?_⟩
    have h1 := HS.out.1.lt M2.out.ld hk
    have h2 := hG k e
    omega
  clear hL hG hb M2 a3 a5 hr1 hr2
  go_wp2
  go_loopw [12] (fun i wx => ∃ (k : Nat) (s : Tb.St) (F G : Nat → Prop), k ≤ N ∧ i = .int .i64 (k : Int) ∧ Bo16 LS LRb W wx q r ((k : Int) + 1) s s F G ∧ s.shards = n) (fun i _ => N - (intOf i).toNat)
  case atStart => exact ⟨0, _, F1, G1, Nat.zero_le _, rfl, B1.out, rfl⟩
  case round =>
    obtain ⟨k, s, F, G, hk, rfl, hB, hsh⟩ := hrel
    have H3 : Hid (Bo16 LS LRb W wr q r ((k : Int) + 1) s s F G ∧ s.shards = n) := ⟨hB, hsh⟩
    clear hB hsh B1
    by_cases hlt : k < N
    · have hlt' : (k : Int) < (N : Int) := by omega
      have hk0 : (0 : Int) ≤ (k : Int) := by omega
      have hwk : IntKind.wrap .i64 ((k : Int) + 1) = (k : Int) + 1 := by rw [IntKind.wrap_i64]; omega
      obtain ⟨x, hx⟩ : ∃ x, xs[k]? = some x := ⟨xs[k]'(by rw [← HV.out.2]; exact hlt), List.getElem?_eq_getElem _⟩
      have HX : Hid (xs[k]? = some x ∧ x.top.size ≤ maxLen) := ⟨hx, (HS.out.2.2 x (List.mem_of_getElem? hx)).top⟩
      obtain ⟨g, o, rfl, c0, c1⟩ := (HV.out.1.below H3.out.1.one.below).at hx
      have hxt : x.top.size ≤ 9223372036854775807 := HX.out.2
      clear hx
      by_cases ax : (100 : Int) < (x.top.size : Int)
      · go_wp2
        go_ret
        exact ⟨rfl, H3.out.1.one.below⟩
      obtain ⟨za, s6, hz⟩ : ∃ za s6, Tb.move s x.top x.shard = (za, s6) := ⟨_, _, rfl⟩
      obtain ⟨zv, hzv⟩ : ∃ zv, zv = s6.version := ⟨_, rfl⟩
      have HMV : Hid (Tb.move s x.top x.shard = (za, s6) ∧ zv = s6.version ∧ s6.shards = n) := ⟨hz, hzv, by
        have h := Tb.move_shards s x.top x.shard
        rw [hz, H3.out.2] at h
        exact h⟩
      have haa : (za != za) = false := by simp
      have hvv : (zv != zv) = false := by simp
      have HKM : Hid ((k : Int) + 1 ≤ 2199023255552) := (show (k : Int) + 1 ≤ 2199023255552 by have := HA.out.2.2.1; omega)
      go_upto_region 14 with fail
      clear ax hz hzv
      refine wp_region_held_drew (S := fun w' => w'.cell? ⟨g, o + k * 2, none⟩ = some (.string x.top) ∧ w'.cell? ⟨g, o + k * 2 + 1, none⟩ = some (.int .i64 x.shard)) (by kernel_rfl) ⟨c0, c1⟩ (fun _ => ?_)
      have J0 : Hid (Bo16 LS LRb W wr.drew q r ((k : Int) + 1) s s F G) := H3.out.1.more HS.out.1 (Below.refl _ _).drew
      clear H3 c0 c1
      generalize wr.drew = s0 at *
      refine' take_at (i := 0) (d := 67) (v := _) rfl rfl (by kernel_rfl) (by kernel_rfl) (by kernel_rfl) (fun _ _ _ h => h) (Or.inl ⟨by rfl, ?h0⟩) (HV.out.1.on J0.out.one.below HX.out.1) ?_
      case h0 =>
        intro w hSw
        obtain ⟨t0, t1⟩ := hSw
        go_simp
        with_reducible rfl
      simp only [List.setIfInBounds_toArray, List.set_cons_zero, List.set_cons_succ]
      refine' take_at (i := 1) (d := 68) (v := _) rfl rfl (by kernel_rfl) (by kernel_rfl) (by kernel_rfl) (fun _ _ _ h => h) (Or.inl ⟨by rfl, ?h1⟩) (HV.out.1.on J0.out.one.below HX.out.1) ?_
      case h1 =>
        intro w hSw
        obtain ⟨t0, t1⟩ := hSw
        go_simp
        with_reducible rfl
      simp only [List.setIfInBounds_toArray, List.set_cons_zero, List.set_cons_succ]
      refine' take_at (i := 2) (d := 69) (v := _) rfl rfl (by kernel_rfl) (by kernel_rfl) (by kernel_rfl) (fun _ _ _ h => h) (Or.inl ⟨by rfl, ?h2⟩) (HV.out.1.on J0.out.one.below HX.out.1) ?_
      case h2 =>
        intro w hSw
        obtain ⟨t0, t1⟩ := hSw
        go_simp
        with_reducible rfl
      simp only [List.setIfInBounds_toArray, List.set_cons_zero, List.set_cons_succ]
      refine' take_at (i := 3) (d := 70) (v := _) rfl rfl (by kernel_rfl) (by kernel_rfl) (by kernel_rfl) (fun _ _ _ h => h) (Or.inl ⟨by rfl, ?h3⟩) (HV.out.1.on J0.out.one.below HX.out.1) ?_
      case h3 =>
        intro w hSw
        obtain ⟨t0, t1⟩ := hSw
        go_simp
        with_reducible rfl
      simp only [List.setIfInBounds_toArray, List.set_cons_zero, List.set_cons_succ]
      refine' take_at (i := 4) (d := 71) (v := _) rfl rfl (by kernel_rfl) (by kernel_rfl) (by kernel_rfl) (fun _ _ _ h => h) (Or.inl ⟨by rfl, ?h4⟩) (HV.out.1.on J0.out.one.below HX.out.1) ?_
      case h4 =>
        intro w hSw
        obtain ⟨t0, t1⟩ := hSw
        go_simp
        with_reducible rfl
      simp only [List.setIfInBounds_toArray, List.set_cons_zero, List.set_cons_succ]
      refine' take_at (i := 5) (d := 72) (v := _) rfl rfl (by kernel_rfl) (by kernel_rfl) (by kernel_rfl) (fun _ _ _ h => h) (Or.inl ⟨by rfl, ?h5⟩) (HV.out.1.on J0.out.one.below HX.out.1) ?_
      case h5 =>
        intro w hSw
        obtain ⟨t0, t1⟩ := hSw
        go_simp
        with_reducible rfl
      simp only [List.setIfInBounds_toArray, List.set_cons_zero, List.set_cons_succ]
      refine' take_at (i := 6) (d := 73) (v := _) rfl rfl (by kernel_rfl) (by kernel_rfl) (by kernel_rfl) (fun _ _ _ h => h) (Or.inl ⟨by rfl, ?h6⟩) (HV.out.1.on J0.out.one.below HX.out.1) ?_
      case h6 =>
        intro w hSw
        obtain ⟨t0, t1⟩ := hSw
        go_simp
        with_reducible rfl
      simp only [List.setIfInBounds_toArray, List.set_cons_zero, List.set_cons_succ]
      refine' take_at (i := 7) (d := 74) (v := _) rfl rfl (by kernel_rfl) (by kernel_rfl) (by kernel_rfl) (fun _ _ _ h => h) (Or.inl ⟨by rfl, ?h7⟩) (HV.out.1.on J0.out.one.below HX.out.1) ?_
      case h7 =>
        intro w hSw
        obtain ⟨t0, t1⟩ := hSw
        go_simp
        with_reducible rfl
      simp only [List.setIfInBounds_toArray, List.set_cons_zero, List.set_cons_succ]
      refine' take_at (i := 8) (d := 75) (v := _) rfl rfl (by kernel_rfl) (by kernel_rfl) (by kernel_rfl) (fun _ _ _ h => h) (Or.inl ⟨by rfl, ?h8⟩) (HV.out.1.on J0.out.one.below HX.out.1) ?_
      case h8 =>
        intro w hSw
        obtain ⟨t0, t1⟩ := hSw
        go_simp
        with_reducible rfl
      simp only [List.setIfInBounds_toArray, List.set_cons_zero, List.set_cons_succ]
      refine' take_at (i := 9) (d := 76) (v := _) rfl rfl (by kernel_rfl) (by kernel_rfl) (by kernel_rfl) (fun _ _ _ h => h) (Or.inl ⟨by rfl, ?h9⟩) (HV.out.1.on J0.out.one.below HX.out.1) ?_
      case h9 =>
        intro w hSw
        obtain ⟨t0, t1⟩ := hSw
        go_simp
        with_reducible rfl
      simp only [List.setIfInBounds_toArray, List.set_cons_zero, List.set_cons_succ]
      refine' take_at (i := 10) (d := 77) (v := _) rfl rfl (by kernel_rfl) (by kernel_rfl) (by kernel_rfl) (fun _ _ _ h => h) (Or.inl ⟨by rfl, ?h10⟩) (HV.out.1.on J0.out.one.below HX.out.1) ?_
      case h10 =>
        intro w hSw
        obtain ⟨t0, t1⟩ := hSw
        go_simp
        with_reducible rfl
      simp only [List.setIfInBounds_toArray, List.set_cons_zero, List.set_cons_succ]
      refine' take_at (i := 12) (d := 79) (v := _) rfl rfl (by kernel_rfl) (by kernel_rfl) (by kernel_rfl) (fun _ _ _ h => h) (Or.inl ⟨by rfl, ?h12⟩) (HV.out.1.on J0.out.one.below HX.out.1) ?_
      case h12 =>
        intro w hSw
        obtain ⟨t0, t1⟩ := hSw
        go_simp
        with_reducible rfl
      simp only [List.setIfInBounds_toArray, List.set_cons_zero, List.set_cons_succ]
      refine' take_at (i := 13) (d := 80) (v := _) rfl rfl (by kernel_rfl) (by kernel_rfl) (by kernel_rfl) (fun _ _ _ h => h) (Or.inl ⟨by rfl, ?h13⟩) (HV.out.1.on J0.out.one.below HX.out.1) ?_
      case h13 =>
        intro w hSw
        obtain ⟨t0, t1⟩ := hSw
        go_simp
        with_reducible rfl
      simp only [List.setIfInBounds_toArray, List.set_cons_zero, List.set_cons_succ]
      refine' take_at (i := 14) (d := 81) (v := _) rfl rfl (by kernel_rfl) (by kernel_rfl) (by kernel_rfl) (fun _ _ _ h => h) (Or.inl ⟨by rfl, ?h14⟩) (HV.out.1.on J0.out.one.below HX.out.1) ?_
      case h14 =>
        intro w hSw
        obtain ⟨t0, t1⟩ := hSw
        go_simp
        with_reducible rfl
      simp only [List.setIfInBounds_toArray, List.set_cons_zero, List.set_cons_succ]
      refine' take_at (i := 15) (d := 82) (v := _) rfl rfl (by kernel_rfl) (by kernel_rfl) (by kernel_rfl) (fun _ _ _ h => h) (Or.inl ⟨by rfl, ?h15⟩) (HV.out.1.on J0.out.one.below HX.out.1) ?_
      case h15 =>
        intro w hSw
        obtain ⟨t0, t1⟩ := hSw
        go_simp
        with_reducible rfl
      simp only [List.setIfInBounds_toArray, List.set_cons_zero, List.set_cons_succ]
      refine' take_at (i := 16) (d := 83) (v := _) rfl rfl (by kernel_rfl) (by kernel_rfl) (by kernel_rfl) (fun _ _ _ h => h) (Or.inl ⟨by rfl, ?h16⟩) (HV.out.1.on J0.out.one.below HX.out.1) ?_
      case h16 =>
        intro w hSw
        obtain ⟨t0, t1⟩ := hSw
        go_simp
        with_reducible rfl
      simp only [List.setIfInBounds_toArray, List.set_cons_zero, List.set_cons_succ]
      refine' take_at (i := 17) (d := 84) (v := _) rfl rfl (by kernel_rfl) (by kernel_rfl) (by kernel_rfl) (fun _ _ _ h => h) (Or.inl ⟨by rfl, ?h17⟩) (HV.out.1.on J0.out.one.below HX.out.1) ?_
      case h17 =>
        intro w hSw
        obtain ⟨t0, t1⟩ := hSw
        go_simp
        with_reducible rfl
      simp only [List.setIfInBounds_toArray, List.set_cons_zero, List.set_cons_succ]
      refine' take_at (i := 18) (d := 85) (v := _) rfl rfl (by kernel_rfl) (by kernel_rfl) (by kernel_rfl) (fun _ _ _ h => h) (Or.inl ⟨by rfl, ?h18⟩) (HV.out.1.on J0.out.one.below HX.out.1) ?_
      case h18 =>
        intro w hSw
        obtain ⟨t0, t1⟩ := hSw
        go_simp
        with_reducible rfl
      simp only [List.setIfInBounds_toArray, List.set_cons_zero, List.set_cons_succ]
      refine' take_at (i := 19) (d := 86) (v := _) rfl rfl (by kernel_rfl) (by kernel_rfl) (by kernel_rfl) (fun _ _ _ h => h) (Or.inl ⟨by rfl, ?h19⟩) (HV.out.1.on J0.out.one.below HX.out.1) ?_
      case h19 =>
        intro w hSw
        obtain ⟨t0, t1⟩ := hSw
        go_simp
        with_reducible rfl
      simp only [List.setIfInBounds_toArray, List.set_cons_zero, List.set_cons_succ]
      refine' take_at (i := 20) (d := 87) (v := _) rfl rfl (by kernel_rfl) (by kernel_rfl) (by kernel_rfl) (fun _ _ _ h => h) (Or.inl ⟨by rfl, ?h20⟩) (HV.out.1.on J0.out.one.below HX.out.1) ?_
      case h20 =>
        intro w hSw
        obtain ⟨t0, t1⟩ := hSw
        go_simp
        with_reducible rfl
      simp only [List.setIfInBounds_toArray, List.set_cons_zero, List.set_cons_succ]
      refine' take_at (i := 21) (d := 88) (v := _) rfl rfl (by kernel_rfl) (by kernel_rfl) (by kernel_rfl) (fun _ _ _ h => h) (Or.inl ⟨by rfl, ?h21⟩) (HV.out.1.on J0.out.one.below HX.out.1) ?_
      case h21 =>
        intro w hSw
        obtain ⟨t0, t1⟩ := hSw
        go_simp
        with_reducible rfl
      simp only [List.setIfInBounds_toArray, List.set_cons_zero, List.set_cons_succ]
      refine' take_at (i := 22) (d := 89) (v := _) rfl rfl (by kernel_rfl) (by kernel_rfl) (by kernel_rfl) (fun _ _ _ h => h) (Or.inl ⟨by rfl, ?h22⟩) (HV.out.1.on J0.out.one.below HX.out.1) ?_
      case h22 =>
        intro w hSw
        obtain ⟨t0, t1⟩ := hSw
        go_simp
        with_reducible rfl
      simp only [List.setIfInBounds_toArray, List.set_cons_zero, List.set_cons_succ]
      refine wpAnyH_ready (rs := [11]) (by kernel_rfl) (by simp) ?_
      refine AllReadyH.cons (o := _) rfl (fun KQ hKQ => ?_) AllReadyH.nil
      go_simp
      refine (J0.out.one.move HS.out.1 HS.out.2.1 HKM.out x.top x.shard HX.out.2 za s6 HMV.out.1).mono ?_
      rintro e s1 ⟨F8, rfl, hM, hmv⟩
      have J1 : Hid (Bo16 LS LRb W s1 q r ((k : Int) + 1 + 1) s6 s F8 G ∧ Mine16 LRb W s1 r ((k : Int) + 1) s G) := by
        have h := J0.out.first (LT := LRb) (m' := (k : Int) + 1 + 1) LRb.lt LRb.keep hM hmv (show (k : Int) + 1 ≤ (k : Int) + 1 + 1 by omega)
        exact ⟨h, h.two.ld, J0.out.two.fine, h.two.hi, h.two.below⟩
      clear hM hmv J0
      refine hKQ.out _ _ (HV.out.1.on J1.out.1.one.below HX.out.1) (fun _ => ?_)
      clear hKQ KQ
      refine wpAnyH_ready (rs := [23]) (by kernel_rfl) (by simp) ?_
      refine AllReadyH.cons (o := _) rfl (fun KQ hKQ => ?_) AllReadyH.nil
      go_simp
      refine (mineR_move16 J1.out.2 HKM.out x.top x.shard HX.out.2 za s6 HMV.out.1).mono ?_
      rintro e s2 ⟨G8, rfl, hM, hmv⟩
      have J2 : Hid (Bo16 LS LRb W s2 q r ((k : Int) + 1 + 1) s6 s6 F8 G8) := J1.out.1.second HS.out.1 hM hmv (Int.le_refl _)
      clear hM hmv J1
      refine hKQ.out _ _ (HV.out.1.on J2.out.one.below HX.out.1) (fun _ => ?_)
      refine wpAnyH_more (S' := fun w' => Below s2.heap.size s2 w') (fun w' h => HV.out.1.on (J2.out.one.below.trans (h.mono J2.out.one.below.size)) HX.out.1) _ _ _ _ ?_
      clear hKQ KQ
      have HCL : Hid (∀ w', Below s2.heap.size s2 w' → w'.cell? ⟨r, 1, none⟩ = some (.int .i64 zv)) := fun w' hb => by
        obtain ⟨vr, hvr, _⟩ := J2.out.two.ld
        rw [HMV.out.2.1]
        exact (hvr.later hb).blk.cell 1
      refine' take_at (i := 24) (d := 91) (v := _) rfl rfl (by kernel_rfl) (by kernel_rfl) (by kernel_rfl) (fun _ _ _ h => h) (Or.inl ⟨by rfl, ?h24⟩) (Below.refl _ _) ?_
      case h24 =>
        intro w hSw
        go_simp
        with_reducible rfl
      simp only [List.setIfInBounds_toArray, List.set_cons_zero, List.set_cons_succ]
      refine' take_at (i := 25) (d := 92) (v := _) rfl rfl (by kernel_rfl) (by kernel_rfl) (by kernel_rfl) (fun _ _ _ h => h) (Or.inl ⟨by rfl, ?h25⟩) (Below.refl _ _) ?_
      case h25 =>
        intro w hSw
        go_simp
        with_reducible rfl
      simp only [List.setIfInBounds_toArray, List.set_cons_zero, List.set_cons_succ]
      refine' take_at (i := 26) (d := 93) (v := _) rfl rfl (by kernel_rfl) (by kernel_rfl) (by kernel_rfl) (fun _ _ _ h => h) (Or.inl ⟨by rfl, ?h26⟩) (Below.refl _ _) ?_
      case h26 =>
        intro w hSw
        go_simp
        with_reducible rfl
      simp only [List.setIfInBounds_toArray, List.set_cons_zero, List.set_cons_succ]
      refine' take_at (i := 28) (d := 95) (v := _) rfl rfl (by kernel_rfl) (by kernel_rfl) (by kernel_rfl) (fun _ _ _ h => h) (Or.inl ⟨by rfl, ?h28⟩) (Below.refl _ _) ?_
      case h28 =>
        intro w hSw
        go_simp
        with_reducible rfl
      simp only [List.setIfInBounds_toArray, List.set_cons_zero, List.set_cons_succ]
      refine' take_at (i := 29) (d := 96) (v := _) rfl rfl (by kernel_rfl) (by kernel_rfl) (by kernel_rfl) (fun _ _ _ h => h) (Or.inl ⟨by rfl, ?h29⟩) (Below.refl _ _) ?_
      case h29 =>
        intro w hSw
        go_simp
        with_reducible rfl
      simp only [List.setIfInBounds_toArray, List.set_cons_zero, List.set_cons_succ]
      refine' take_at (i := 30) (d := 97) (v := _) rfl rfl (by kernel_rfl) (by kernel_rfl) (by kernel_rfl) (fun _ _ _ h => h) (Or.inl ⟨by rfl, ?h30⟩) (Below.refl _ _) ?_
      case h30 =>
        intro w hSw
        go_simp
        with_reducible rfl
      simp only [List.setIfInBounds_toArray, List.set_cons_zero, List.set_cons_succ]
      refine' take_at (i := 31) (d := 98) (v := _) rfl rfl (by kernel_rfl) (by kernel_rfl) (by kernel_rfl) (fun _ _ _ h => h) (Or.inl ⟨by rfl, ?h31⟩) (Below.refl _ _) ?_
      case h31 =>
        intro w hSw
        have y1 := HCL.out w hSw
        go_simp
        with_reducible rfl
      simp only [List.setIfInBounds_toArray, List.set_cons_zero, List.set_cons_succ]
      refine wpAnyH_ready (rs := [27]) (by kernel_rfl) (by simp) ?_
      refine AllReadyH.cons (o := _) rfl (fun KQ hKQ => ?_) AllReadyH.nil
      go_simp
      refine (J2.out.one.version HS.out.1 zv HMV.out.2.1.symm).mono ?_
      rintro e s3 ⟨rfl, hM, hb⟩
      have J3 : Hid (Bo16 LS LRb W s3 q r ((k : Int) + 1 + 1) s6 s6 F8 G8) := J2.out.more HS.out.1 hb
      clear hM J2
      refine hKQ.out _ _ hb (fun _ => ?_)
      clear hKQ KQ
      refine' take_at (i := 32) (d := 99) (v := _) rfl rfl (by kernel_rfl) (by kernel_rfl) (by kernel_rfl) (fun _ _ _ h => h) (Or.inl ⟨by rfl, ?h32⟩) (hb) ?_
      case h32 =>
        intro w hSw
        go_simp
        with_reducible rfl
      simp only [List.setIfInBounds_toArray, List.set_cons_zero, List.set_cons_succ]
      refine' take_at (i := 33) (d := 100) (v := _) rfl rfl (by kernel_rfl) (by kernel_rfl) (by kernel_rfl) (fun _ _ _ h => h) (Or.inl ⟨by rfl, ?h33⟩) (hb) ?_
      case h33 =>
        intro w hSw
        go_simp
        with_reducible rfl
      simp only [List.setIfInBounds_toArray, List.set_cons_zero, List.set_cons_succ]
      refine wpAnyH_done (by kernel_rfl) ?_ _
      go_wp2
      go_roundw
      case rel => exact ⟨k + 1, s6, F8, G8, by omega, by go_num, by simpa using J3.out, HMV.out.2.2⟩
      case measure => simp [intOf]; omega
    · have hlt' : ¬ (k : Int) < (N : Int) := by omega
      have HKN : Hid (k ≤ 60) := (show k ≤ 60 by have := HA.out.2.2.1; omega)
      have HGB : Hid (Tb.get (Tb.bytes s) = some s ∧ (Tb.bytes s).length ≤ 4000) := ⟨Tb.get_bytes H3.out.1.one.fine (by have := HKN.out; omega), by have := Tb.bytes_len H3.out.1.one.fine; omega⟩
      go_wp2_with fail
      refine (H3.out.1.one.put HS.out.1).mono ?_
      rintro e w4 ⟨vp, rfl, hvp, hM4, hb4⟩
      have H4 : Hid (Bo16 LS LRb W w4 q r ((k : Int) + 1) s s F G ∧ s.shards = n ∧ Bs w4 vp (Tb.bytes s)) := ⟨H3.out.1.more HS.out.1 hb4, H3.out.2, Bs.own hvp⟩
      obtain ⟨ap, cp, hve, _, _⟩ := row_form hvp
      obtain ⟨LB, hLB⟩ : ∃ z, z = (Tb.bytes s).length := ⟨_, rfl⟩
      rw [← hLB] at hve
      subst hve
      clear hM4 hvp hb4 hLB H3
      go_wp2_with fail
      refine (mine16_get HS.out.1 H4.out.1.one.below HS.out.2.1 _ (Tb.bytes s) H4.out.2.2 HGB.out.2 s HGB.out.1).mono ?_
      rintro e w5 ⟨q2, F2, rfl, hM5, hG5, hb5⟩
      have H5 : Hid (Tr16 LS W w5 q r q2 ((k : Int) + 1) s F G F2 ∧ s.shards = n) := ⟨⟨H4.out.1.more HS.out.1 hb5, hM5⟩, H4.out.2.1⟩
      clear hM5 hG5 hb5 H4
      obtain ⟨zo, hzo⟩ : ∃ zo, zo = Tb.of s p := ⟨_, rfl⟩
      have HZO : Hid (Tb.of s p = zo) := hzo.symm
      have hoo : (zo == zo) = true := by simp
      obtain ⟨zv, hzv⟩ : ∃ zv, zv = s.version := ⟨_, rfl⟩
      have HZV : Hid (s.version = zv) := hzv.symm
      have hvv : (zv == zv) = true := by simp
      have hnn : (n == n) = true := by simp
      obtain ⟨zl, hzl⟩ : ∃ zl, zl = Tb.split s (os.map O.path) := ⟨_, rfl⟩
      have HZL : Hid (Tb.split s (os.map O.path) = zl ∧ zl.length ≤ 1000 ∧ (∀ l ∈ zl, l.length ≤ 1000) ∧ os.length ≤ 100) := by
        have h20 := HNO2.out
        rw [HNO.out] at h20
        refine ⟨hzl.symm, ?_, ?_, by omega⟩
        · rw [hzl, Tb.split_len]
          have := H5.out.1.bo.one.fine.sh2
          omega
        · intro l hl
          obtain ⟨j, hj⟩ := List.mem_iff_getElem?.1 hl
          rw [hzl] at hj
          rw [(Tb.split_at hj).2]
          have h := Tb.places_len (Tb.of s) (os.map O.path) (j : Int)
          rw [List.length_map] at h
          omega
      obtain ⟨Z, hZ⟩ : ∃ Z : ByteArray, Z = ⟨(Tb.bytes s).toArray⟩ := ⟨_, rfl⟩
      have HZ : Hid (Z = ⟨(Tb.bytes s).toArray⟩) := hZ
      have hzz : (Z.toList == Z.toList) = true := by simp
      clear hzo hzv hzl hZ
      go_upto_region 17 with fail
      refine wp_region_held_drew (S := fun w' => Below w5.heap.size w5 w') (by kernel_rfl) (Below.refl _ _).drew (fun _ => ?_)
      refine wpAnyH_more (S' := fun w' => Below w5.drew.heap.size w5.drew w') (fun w' h => below_drew h) _ _ _ _ ?_
      have J0 : Hid (Tr16 LS W w5.drew q r q2 ((k : Int) + 1) s F G F2) := H5.out.1.more HS.out.1 (Below.refl _ _).drew
      have HSH : Hid (s.shards = n) := H5.out.2
      clear H5
      generalize w5.drew = s0 at *
      refine' take_at (i := 0) (d := 107) (v := _) rfl rfl (by kernel_rfl) (by kernel_rfl) (by kernel_rfl) (fun _ _ _ h => h) (Or.inl ⟨by rfl, ?h0⟩) (Below.refl _ _) ?_
      case h0 =>
        intro w hSw
        go_simp
        with_reducible rfl
      simp only [List.setIfInBounds_toArray, List.set_cons_zero, List.set_cons_succ]
      refine' take_at (i := 1) (d := 108) (v := _) rfl rfl (by kernel_rfl) (by kernel_rfl) (by kernel_rfl) (fun _ _ _ h => h) (Or.inl ⟨by rfl, ?h1⟩) (Below.refl _ _) ?_
      case h1 =>
        intro w hSw
        go_simp
        with_reducible rfl
      simp only [List.setIfInBounds_toArray, List.set_cons_zero, List.set_cons_succ]
      refine' take_at (i := 3) (d := 110) (v := _) rfl rfl (by kernel_rfl) (by kernel_rfl) (by kernel_rfl) (fun _ _ _ h => h) (Or.inl ⟨by rfl, ?h3⟩) (Below.refl _ _) ?_
      case h3 =>
        intro w hSw
        go_simp
        with_reducible rfl
      simp only [List.setIfInBounds_toArray, List.set_cons_zero, List.set_cons_succ]
      refine' take_at (i := 4) (d := 111) (v := _) rfl rfl (by kernel_rfl) (by kernel_rfl) (by kernel_rfl) (fun _ _ _ h => h) (Or.inl ⟨by rfl, ?h4⟩) (Below.refl _ _) ?_
      case h4 =>
        intro w hSw
        go_simp
        with_reducible rfl
      simp only [List.setIfInBounds_toArray, List.set_cons_zero, List.set_cons_succ]
      refine wpAnyH_ready (rs := [2]) (by kernel_rfl) (by simp) ?_
      refine AllReadyH.cons (o := _) rfl (fun KQ hKQ => ?_) AllReadyH.nil
      go_simp
      refine (J0.out.bo.one.of HS.out.1 HS.out.2.1 p HT.out zo HZO.out).mono ?_
      rintro e s1 ⟨rfl, hM, hb⟩
      clear hM
      have J1 : Hid (Tr16 LS W s1 q r q2 ((k : Int) + 1) s F G F2) := J0.out.more HS.out.1 hb
      clear J0
      refine hKQ.out _ _ hb (fun _ => ?_)
      refine wpAnyH_more (S' := fun w' => Below s1.heap.size s1 w') (fun w' h => hb.trans (h.mono hb.size)) _ _ _ _ ?_
      clear hKQ KQ hb
      refine wpAnyH_ready (rs := [5]) (by kernel_rfl) (by simp) ?_
      refine AllReadyH.cons (o := _) rfl (fun KQ hKQ => ?_) AllReadyH.nil
      go_simp
      refine (refOf_any16 r s G _ p s1 J1.out.bo.two.ld J1.out.bo.two.fine HT.out).mono ?_
      rintro e s2 ⟨rfl, hb⟩
      rw [HZO.out]
      have J2 : Hid (Tr16 LS W s2 q r q2 ((k : Int) + 1) s F G F2) := J1.out.more HS.out.1 hb
      clear J1
      refine hKQ.out _ _ hb (fun _ => ?_)
      refine wpAnyH_more (S' := fun w' => Below s2.heap.size s2 w') (fun w' h => hb.trans (h.mono hb.size)) _ _ _ _ ?_
      clear hKQ KQ hb
      refine' take_at (i := 6) (d := 113) (v := _) rfl rfl (by kernel_rfl) (by kernel_rfl) (by kernel_rfl) (fun _ _ _ h => h) (Or.inl ⟨by rfl, ?h6⟩) (Below.refl _ _) ?_
      case h6 =>
        intro w hSw
        go_simp
        with_reducible rfl
      simp only [List.setIfInBounds_toArray, List.set_cons_zero, List.set_cons_succ]
      refine' take_at (i := 7) (d := 114) (v := _) rfl rfl (by kernel_rfl) (by kernel_rfl) (by kernel_rfl) (fun _ _ _ h => h) (Or.inl ⟨by rfl, ?h7⟩) (Below.refl _ _) ?_
      case h7 =>
        intro w hSw
        go_simp
        with_reducible rfl
      simp only [List.setIfInBounds_toArray, List.set_cons_zero, List.set_cons_succ]
      refine' take_at (i := 8) (d := 115) (v := _) rfl rfl (by kernel_rfl) (by kernel_rfl) (by kernel_rfl) (fun _ _ _ h => h) (Or.inl ⟨by rfl, ?h8⟩) (Below.refl _ _) ?_
      case h8 =>
        intro w hSw
        go_simp
        with_reducible rfl
      simp only [List.setIfInBounds_toArray, List.set_cons_zero, List.set_cons_succ]
      refine' take_at (i := 9) (d := 116) (v := _) rfl rfl (by kernel_rfl) (by kernel_rfl) (by kernel_rfl) (fun _ _ _ h => h) (Or.inl ⟨by rfl, ?h9⟩) (Below.refl _ _) ?_
      case h9 =>
        intro w hSw
        go_simp
        with_reducible rfl
      simp only [List.setIfInBounds_toArray, List.set_cons_zero, List.set_cons_succ]
      refine' take_at (i := 11) (d := 118) (v := _) rfl rfl (by kernel_rfl) (by kernel_rfl) (by kernel_rfl) (fun _ _ _ h => h) (Or.inl ⟨by rfl, ?h11⟩) (Below.refl _ _) ?_
      case h11 =>
        intro w hSw
        go_simp
        with_reducible rfl
      simp only [List.setIfInBounds_toArray, List.set_cons_zero, List.set_cons_succ]
      refine' take_at (i := 12) (d := 119) (v := _) rfl rfl (by kernel_rfl) (by kernel_rfl) (by kernel_rfl) (fun _ _ _ h => h) (Or.inl ⟨by rfl, ?h12⟩) (Below.refl _ _) ?_
      case h12 =>
        intro w hSw
        go_simp
        with_reducible rfl
      simp only [List.setIfInBounds_toArray, List.set_cons_zero, List.set_cons_succ]
      refine wpAnyH_ready (rs := [10]) (by kernel_rfl) (by simp) ?_
      refine AllReadyH.cons (o := _) rfl (fun KQ hKQ => ?_) AllReadyH.nil
      go_simp
      refine (J2.out.bo.one.split HS.out.1 HS.out.2.1 _ os (HO.out.1.below J2.out.bo.one.below) HZL.out.2.2.2 HO.out.2.2 zl HZL.out.1).mono ?_
      rintro e s3 ⟨va, rfl, hia, hM, hb⟩
      have K3 : Hid (Bii s3 va zl) := hia
      obtain ⟨a3, n3, c3, rfl, hn3, hc3⟩ := hia
      clear hM hn3 hc3
      simp only []
      have J3 : Hid (Tr16 LS W s3 q r q2 ((k : Int) + 1) s F G F2) := J2.out.more HS.out.1 hb
      clear J2
      refine hKQ.out _ _ hb (fun _ => ?_)
      refine wpAnyH_more (S' := fun w' => Below s3.heap.size s3 w') (fun w' h => hb.trans (h.mono hb.size)) _ _ _ _ ?_
      clear hKQ KQ hb
      refine wpAnyH_ready (rs := [13]) (by kernel_rfl) (by simp) ?_
      refine AllReadyH.cons (o := _) rfl (fun KQ hKQ => ?_) AllReadyH.nil
      go_simp
      refine (refSplit_any16 r s G _ _ os s3 J3.out.bo.two.ld J3.out.bo.two.fine (HO.out.1.below J3.out.bo.one.below) HZL.out.2.2.2 HO.out.2.2).mono ?_
      rintro e s4 ⟨vb, rfl, hib, hb⟩
      rw [HZL.out.1] at hib
      have K4 : Hid (Bii s4 (.slice a3 n3 c3) zl ∧ Bii s4 vb zl) := ⟨K3.out.below hb, hib⟩
      obtain ⟨a4, n4, c4, rfl, hn4, hc4⟩ := hib
      clear hn4 hc4 K3
      simp only []
      have J4 : Hid (Tr16 LS W s4 q r q2 ((k : Int) + 1) s F G F2) := J3.out.more HS.out.1 hb
      clear J3
      refine hKQ.out _ _ hb (fun _ => ?_)
      refine wpAnyH_more (S' := fun w' => Below s4.heap.size s4 w') (fun w' h => hb.trans (h.mono hb.size)) _ _ _ _ ?_
      clear hKQ KQ hb
      refine wpAnyH_ready (rs := [14]) (by kernel_rfl) (by simp) ?_
      refine AllReadyH.cons (o := _) rfl (fun KQ hKQ => ?_) AllReadyH.nil
      go_simp
      refine (places_any16 _ _ zl zl s4 K4.out.1 K4.out.2 HZL.out.2.1 HZL.out.2.2.1).mono ?_
      rintro e s5 ⟨rfl, hb⟩
      have hdt : decide (zl = zl) = true := decide_eq_true rfl
      rw [hdt]
      clear K4 hdt
      simp only []
      have J5 : Hid (Tr16 LS W s5 q r q2 ((k : Int) + 1) s F G F2) := J4.out.more HS.out.1 hb
      clear J4
      refine hKQ.out _ _ hb (fun _ => ?_)
      refine wpAnyH_more (S' := fun w' => Below s5.heap.size s5 w') (fun w' h => hb.trans (h.mono hb.size)) _ _ _ _ ?_
      clear hKQ KQ hb
      refine' take_at (i := 15) (d := 122) (v := _) rfl rfl (by kernel_rfl) (by kernel_rfl) (by kernel_rfl) (fun _ _ _ h => h) (Or.inl ⟨by rfl, ?h15⟩) (Below.refl _ _) ?_
      case h15 =>
        intro w hSw
        go_simp
        with_reducible rfl
      simp only [List.setIfInBounds_toArray, List.set_cons_zero, List.set_cons_succ]
      refine' take_at (i := 16) (d := 123) (v := _) rfl rfl (by kernel_rfl) (by kernel_rfl) (by kernel_rfl) (fun _ _ _ h => h) (Or.inl ⟨by rfl, ?h16⟩) (Below.refl _ _) ?_
      case h16 =>
        intro w hSw
        go_simp
        with_reducible rfl
      simp only [List.setIfInBounds_toArray, List.set_cons_zero, List.set_cons_succ]
      refine' take_at (i := 17) (d := 124) (v := _) rfl rfl (by kernel_rfl) (by kernel_rfl) (by kernel_rfl) (fun _ _ _ h => h) (Or.inl ⟨by rfl, ?h17⟩) (Below.refl _ _) ?_
      case h17 =>
        intro w hSw
        go_simp
        with_reducible rfl
      simp only [List.setIfInBounds_toArray, List.set_cons_zero, List.set_cons_succ]
      refine' take_at (i := 20) (d := 127) (v := _) rfl rfl (by kernel_rfl) (by kernel_rfl) (by kernel_rfl) (fun _ _ _ h => h) (Or.inl ⟨by rfl, ?h20⟩) (Below.refl _ _) ?_
      case h20 =>
        intro w hSw
        go_simp
        with_reducible rfl
      simp only [List.setIfInBounds_toArray, List.set_cons_zero, List.set_cons_succ]
      refine wpAnyH_ready (rs := [18]) (by kernel_rfl) (by simp) ?_
      refine AllReadyH.cons (o := _) rfl (fun KQ hKQ => ?_) AllReadyH.nil
      go_simp
      refine (J5.out.bo.one.put HS.out.1).mono ?_
      rintro e s6 ⟨vp, rfl, hvp, hM, hb⟩
      have K6 : Hid (Bs s6 vp (Tb.bytes s)) := Bs.own hvp
      obtain ⟨ap, cp9, hve, _, _⟩ := row_form hvp
      obtain ⟨LB9, hLB⟩ : ∃ z, z = (Tb.bytes s).length := ⟨_, rfl⟩
      rw [← hLB] at hve
      subst hve
      clear hvp hM hLB
      simp only []
      have J6 : Hid (Tr16 LS W s6 q r q2 ((k : Int) + 1) s F G F2) := J5.out.more HS.out.1 hb
      clear J5
      refine hKQ.out _ _ hb (fun _ => ?_)
      refine wpAnyH_more (S' := fun w' => Below s6.heap.size s6 w') (fun w' h => hb.trans (h.mono hb.size)) _ _ _ _ ?_
      clear hKQ KQ hb
      refine' take_at (i := 19) (d := 126) (v := _) rfl rfl (by kernel_rfl) (by kernel_rfl) (by kernel_rfl) (fun _ _ _ h => h) (Or.inl ⟨by rfl, ?h19⟩) (Below.refl _ _) ?_
      case h19 =>
        intro w hSw
        have hcv := (K6.out.below hSw).conv
        rw [← HZ.out] at hcv
        go_simp
        with_reducible rfl
      simp only [List.setIfInBounds_toArray, List.set_cons_zero, List.set_cons_succ]
      refine wpAnyH_ready (rs := [21]) (by kernel_rfl) (by simp) ?_
      refine AllReadyH.cons (o := _) rfl (fun KQ hKQ => ?_) AllReadyH.nil
      go_simp
      refine (refPut_any16 r s G _ s6 J6.out.bo.two.ld J6.out.bo.two.fine).mono ?_
      rintro e s7 ⟨vp, rfl, hvp, hb⟩
      have K7 : Hid (Bs s7 vp (Tb.bytes s)) := hvp
      obtain ⟨ap2, np2, cp2, rfl, hx1, hx2⟩ := hvp
      clear hx1 hx2 K6
      simp only []
      have J7 : Hid (Tr16 LS W s7 q r q2 ((k : Int) + 1) s F G F2) := J6.out.more HS.out.1 hb
      clear J6
      refine hKQ.out _ _ hb (fun _ => ?_)
      refine wpAnyH_more (S' := fun w' => Below s7.heap.size s7 w') (fun w' h => hb.trans (h.mono hb.size)) _ _ _ _ ?_
      clear hKQ KQ hb
      refine' take_at (i := 22) (d := 129) (v := _) rfl rfl (by kernel_rfl) (by kernel_rfl) (by kernel_rfl) (fun _ _ _ h => h) (Or.inl ⟨by rfl, ?h22⟩) (Below.refl _ _) ?_
      case h22 =>
        intro w hSw
        have hcv := (K7.out.below hSw).conv
        rw [← HZ.out] at hcv
        go_simp
        with_reducible rfl
      simp only [List.setIfInBounds_toArray, List.set_cons_zero, List.set_cons_succ]
      refine' take_at (i := 23) (d := 130) (v := _) rfl rfl (by kernel_rfl) (by kernel_rfl) (by kernel_rfl) (fun _ _ _ h => h) (Or.inl ⟨by rfl, ?h23⟩) (Below.refl _ _) ?_
      case h23 =>
        intro w hSw
        go_simp
        with_reducible rfl
      simp only [List.setIfInBounds_toArray, List.set_cons_zero, List.set_cons_succ]
      refine' take_at (i := 24) (d := 131) (v := _) rfl rfl (by kernel_rfl) (by kernel_rfl) (by kernel_rfl) (fun _ _ _ h => h) (Or.inl ⟨by rfl, ?h24⟩) (Below.refl _ _) ?_
      case h24 =>
        intro w hSw
        go_simp
        with_reducible rfl
      simp only [List.setIfInBounds_toArray, List.set_cons_zero, List.set_cons_succ]
      refine' take_at (i := 25) (d := 132) (v := _) rfl rfl (by kernel_rfl) (by kernel_rfl) (by kernel_rfl) (fun _ _ _ h => h) (Or.inl ⟨by rfl, ?h25⟩) (Below.refl _ _) ?_
      case h25 =>
        intro w hSw
        go_simp
        with_reducible rfl
      simp only [List.setIfInBounds_toArray, List.set_cons_zero, List.set_cons_succ]
      refine' take_at (i := 26) (d := 133) (v := _) rfl rfl (by kernel_rfl) (by kernel_rfl) (by kernel_rfl) (fun _ _ _ h => h) (Or.inl ⟨by rfl, ?h26⟩) (Below.refl _ _) ?_
      case h26 =>
        intro w hSw
        go_simp
        with_reducible rfl
      simp only [List.setIfInBounds_toArray, List.set_cons_zero, List.set_cons_succ]
      refine' take_at (i := 27) (d := 134) (v := _) rfl rfl (by kernel_rfl) (by kernel_rfl) (by kernel_rfl) (fun _ _ _ h => h) (Or.inl ⟨by rfl, ?h27⟩) (Below.refl _ _) ?_
      case h27 =>
        intro w hSw
        go_simp
        with_reducible rfl
      simp only [List.setIfInBounds_toArray, List.set_cons_zero, List.set_cons_succ]
      refine' take_at (i := 28) (d := 135) (v := _) rfl rfl (by kernel_rfl) (by kernel_rfl) (by kernel_rfl) (fun _ _ _ h => h) (Or.inl ⟨by rfl, ?h28⟩) (Below.refl _ _) ?_
      case h28 =>
        intro w hSw
        go_simp
        with_reducible rfl
      simp only [List.setIfInBounds_toArray, List.set_cons_zero, List.set_cons_succ]
      refine' take_at (i := 29) (d := 136) (v := _) rfl rfl (by kernel_rfl) (by kernel_rfl) (by kernel_rfl) (fun _ _ _ h => h) (Or.inl ⟨by rfl, ?h29⟩) (Below.refl _ _) ?_
      case h29 =>
        intro w hSw
        go_simp
        with_reducible rfl
      simp only [List.setIfInBounds_toArray, List.set_cons_zero, List.set_cons_succ]
      refine' take_at (i := 30) (d := 137) (v := _) rfl rfl (by kernel_rfl) (by kernel_rfl) (by kernel_rfl) (fun _ _ _ h => h) (Or.inl ⟨by rfl, ?h30⟩) (Below.refl _ _) ?_
      case h30 =>
        intro w hSw
        go_simp
        with_reducible rfl
      simp only [List.setIfInBounds_toArray, List.set_cons_zero, List.set_cons_succ]
      refine' take_at (i := 31) (d := 138) (v := _) rfl rfl (by kernel_rfl) (by kernel_rfl) (by kernel_rfl) (fun _ _ _ h => h) (Or.inl ⟨by rfl, ?h31⟩) (Below.refl _ _) ?_
      case h31 =>
        intro w hSw
        go_simp
        with_reducible rfl
      simp only [List.setIfInBounds_toArray, List.set_cons_zero, List.set_cons_succ]
      refine' take_at (i := 33) (d := 140) (v := _) rfl rfl (by kernel_rfl) (by kernel_rfl) (by kernel_rfl) (fun _ _ _ h => h) (Or.inl ⟨by rfl, ?h33⟩) (Below.refl _ _) ?_
      case h33 =>
        intro w hSw
        go_simp
        with_reducible rfl
      simp only [List.setIfInBounds_toArray, List.set_cons_zero, List.set_cons_succ]
      refine' take_at (i := 34) (d := 141) (v := _) rfl rfl (by kernel_rfl) (by kernel_rfl) (by kernel_rfl) (fun _ _ _ h => h) (Or.inl ⟨by rfl, ?h34⟩) (Below.refl _ _) ?_
      case h34 =>
        intro w hSw
        go_simp
        with_reducible rfl
      simp only [List.setIfInBounds_toArray, List.set_cons_zero, List.set_cons_succ]
      refine wpAnyH_ready (rs := [32]) (by kernel_rfl) (by simp) ?_
      refine AllReadyH.cons (o := _) rfl (fun KQ hKQ => ?_) AllReadyH.nil
      go_simp
      refine (J7.out.third.of HS.out.1 HS.out.2.1 p HT.out zo HZO.out).mono ?_
      rintro e s8 ⟨rfl, hM, hb⟩
      clear hM
      have J8 : Hid (Tr16 LS W s8 q r q2 ((k : Int) + 1) s F G F2) := J7.out.more HS.out.1 hb
      clear J7
      refine hKQ.out _ _ hb (fun _ => ?_)
      refine wpAnyH_more (S' := fun w' => Below s8.heap.size s8 w') (fun w' h => hb.trans (h.mono hb.size)) _ _ _ _ ?_
      clear hKQ KQ hb
      refine wpAnyH_ready (rs := [35]) (by kernel_rfl) (by simp) ?_
      refine AllReadyH.cons (o := _) rfl (fun KQ hKQ => ?_) AllReadyH.nil
      go_simp
      refine (J8.out.bo.one.of HS.out.1 HS.out.2.1 p HT.out zo HZO.out).mono ?_
      rintro e s9 ⟨rfl, hM, hb⟩
      clear hM
      have J9 : Hid (Tr16 LS W s9 q r q2 ((k : Int) + 1) s F G F2) := J8.out.more HS.out.1 hb
      clear J8
      refine hKQ.out _ _ hb (fun _ => ?_)
      refine wpAnyH_more (S' := fun w' => Below s9.heap.size s9 w') (fun w' h => hb.trans (h.mono hb.size)) _ _ _ _ ?_
      clear hKQ KQ hb
      refine' take_at (i := 36) (d := 143) (v := _) rfl rfl (by kernel_rfl) (by kernel_rfl) (by kernel_rfl) (fun _ _ _ h => h) (Or.inl ⟨by rfl, ?h36⟩) (Below.refl _ _) ?_
      case h36 =>
        intro w hSw
        go_simp
        with_reducible rfl
      simp only [List.setIfInBounds_toArray, List.set_cons_zero, List.set_cons_succ]
      refine' take_at (i := 37) (d := 144) (v := _) rfl rfl (by kernel_rfl) (by kernel_rfl) (by kernel_rfl) (fun _ _ _ h => h) (Or.inl ⟨by rfl, ?h37⟩) (Below.refl _ _) ?_
      case h37 =>
        intro w hSw
        go_simp
        with_reducible rfl
      simp only [List.setIfInBounds_toArray, List.set_cons_zero, List.set_cons_succ]
      refine' take_at (i := 38) (d := 145) (v := _) rfl rfl (by kernel_rfl) (by kernel_rfl) (by kernel_rfl) (fun _ _ _ h => h) (Or.inl ⟨by rfl, ?h38⟩) (Below.refl _ _) ?_
      case h38 =>
        intro w hSw
        go_simp
        with_reducible rfl
      simp only [List.setIfInBounds_toArray, List.set_cons_zero, List.set_cons_succ]
      refine' take_at (i := 39) (d := 146) (v := _) rfl rfl (by kernel_rfl) (by kernel_rfl) (by kernel_rfl) (fun _ _ _ h => h) (Or.inl ⟨by rfl, ?h39⟩) (Below.refl _ _) ?_
      case h39 =>
        intro w hSw
        go_simp
        with_reducible rfl
      simp only [List.setIfInBounds_toArray, List.set_cons_zero, List.set_cons_succ]
      refine' take_at (i := 41) (d := 148) (v := _) rfl rfl (by kernel_rfl) (by kernel_rfl) (by kernel_rfl) (fun _ _ _ h => h) (Or.inl ⟨by rfl, ?h41⟩) (Below.refl _ _) ?_
      case h41 =>
        intro w hSw
        go_simp
        with_reducible rfl
      simp only [List.setIfInBounds_toArray, List.set_cons_zero, List.set_cons_succ]
      refine wpAnyH_ready (rs := [40]) (by kernel_rfl) (by simp) ?_
      refine AllReadyH.cons (o := _) rfl (fun KQ hKQ => ?_) AllReadyH.nil
      go_simp
      refine (J9.out.third.version HS.out.1 zv HZV.out).mono ?_
      rintro e s10 ⟨rfl, hM, hb⟩
      clear hM
      have J10 : Hid (Tr16 LS W s10 q r q2 ((k : Int) + 1) s F G F2) := J9.out.more HS.out.1 hb
      clear J9
      refine hKQ.out _ _ hb (fun _ => ?_)
      refine wpAnyH_more (S' := fun w' => Below s10.heap.size s10 w') (fun w' h => hb.trans (h.mono hb.size)) _ _ _ _ ?_
      clear hKQ KQ hb
      refine wpAnyH_ready (rs := [42]) (by kernel_rfl) (by simp) ?_
      refine AllReadyH.cons (o := _) rfl (fun KQ hKQ => ?_) AllReadyH.nil
      go_simp
      refine (J10.out.bo.one.version HS.out.1 zv HZV.out).mono ?_
      rintro e s11 ⟨rfl, hM, hb⟩
      clear hM
      have J11 : Hid (Tr16 LS W s11 q r q2 ((k : Int) + 1) s F G F2) := J10.out.more HS.out.1 hb
      clear J10
      refine hKQ.out _ _ hb (fun _ => ?_)
      refine wpAnyH_more (S' := fun w' => Below s11.heap.size s11 w') (fun w' h => hb.trans (h.mono hb.size)) _ _ _ _ ?_
      clear hKQ KQ hb
      refine' take_at (i := 43) (d := 150) (v := _) rfl rfl (by kernel_rfl) (by kernel_rfl) (by kernel_rfl) (fun _ _ _ h => h) (Or.inl ⟨by rfl, ?h43⟩) (Below.refl _ _) ?_
      case h43 =>
        intro w hSw
        go_simp
        with_reducible rfl
      simp only [List.setIfInBounds_toArray, List.set_cons_zero, List.set_cons_succ]
      refine' take_at (i := 44) (d := 151) (v := _) rfl rfl (by kernel_rfl) (by kernel_rfl) (by kernel_rfl) (fun _ _ _ h => h) (Or.inl ⟨by rfl, ?h44⟩) (Below.refl _ _) ?_
      case h44 =>
        intro w hSw
        go_simp
        with_reducible rfl
      simp only [List.setIfInBounds_toArray, List.set_cons_zero, List.set_cons_succ]
      refine' take_at (i := 45) (d := 152) (v := _) rfl rfl (by kernel_rfl) (by kernel_rfl) (by kernel_rfl) (fun _ _ _ h => h) (Or.inl ⟨by rfl, ?h45⟩) (Below.refl _ _) ?_
      case h45 =>
        intro w hSw
        go_simp
        with_reducible rfl
      simp only [List.setIfInBounds_toArray, List.set_cons_zero, List.set_cons_succ]
      refine' take_at (i := 46) (d := 153) (v := _) rfl rfl (by kernel_rfl) (by kernel_rfl) (by kernel_rfl) (fun _ _ _ h => h) (Or.inl ⟨by rfl, ?h46⟩) (Below.refl _ _) ?_
      case h46 =>
        intro w hSw
        go_simp
        with_reducible rfl
      simp only [List.setIfInBounds_toArray, List.set_cons_zero, List.set_cons_succ]
      refine' take_at (i := 48) (d := 155) (v := _) rfl rfl (by kernel_rfl) (by kernel_rfl) (by kernel_rfl) (fun _ _ _ h => h) (Or.inl ⟨by rfl, ?h48⟩) (Below.refl _ _) ?_
      case h48 =>
        intro w hSw
        go_simp
        with_reducible rfl
      simp only [List.setIfInBounds_toArray, List.set_cons_zero, List.set_cons_succ]
      refine wpAnyH_ready (rs := [47]) (by kernel_rfl) (by simp) ?_
      refine AllReadyH.cons (o := _) rfl (fun KQ hKQ => ?_) AllReadyH.nil
      go_simp
      refine (J11.out.third.shards HS.out.1 n HSH.out).mono ?_
      rintro e s12 ⟨rfl, hM, hb⟩
      clear hM
      have J12 : Hid (Tr16 LS W s12 q r q2 ((k : Int) + 1) s F G F2) := J11.out.more HS.out.1 hb
      clear J11
      refine hKQ.out _ _ hb (fun _ => ?_)
      refine wpAnyH_more (S' := fun w' => Below s12.heap.size s12 w') (fun w' h => hb.trans (h.mono hb.size)) _ _ _ _ ?_
      clear hKQ KQ hb
      refine' take_at (i := 49) (d := 156) (v := _) rfl rfl (by kernel_rfl) (by kernel_rfl) (by kernel_rfl) (fun _ _ _ h => h) (Or.inl ⟨by rfl, ?h49⟩) (Below.refl _ _) ?_
      case h49 =>
        intro w hSw
        go_simp
        with_reducible rfl
      simp only [List.setIfInBounds_toArray, List.set_cons_zero, List.set_cons_succ]
      refine' take_at (i := 50) (d := 157) (v := _) rfl rfl (by kernel_rfl) (by kernel_rfl) (by kernel_rfl) (fun _ _ _ h => h) (Or.inl ⟨by rfl, ?h50⟩) (Below.refl _ _) ?_
      case h50 =>
        intro w hSw
        go_simp
        with_reducible rfl
      simp only [List.setIfInBounds_toArray, List.set_cons_zero, List.set_cons_succ]
      refine' take_at (i := 51) (d := 8) (v := _) rfl rfl (by kernel_rfl) (by kernel_rfl) (by kernel_rfl) (fun _ _ _ h => h) (Or.inl ⟨by rfl, ?h51⟩) (Below.refl _ _) ?_
      case h51 =>
        intro w hSw
        go_simp
        with_reducible rfl
      simp only [List.setIfInBounds_toArray, List.set_cons_zero, List.set_cons_succ]
      refine wpAnyH_done (by kernel_rfl) ?_ _
      go_wp2
      go_ret
      exact ⟨rfl, J12.out.bo.one.below⟩
end Go.Proofs.YtpjdjobdbandhaaDoor
