/- WatchPlays' walk: the landed watches beside the reference's. -/
import Derived.Test.YtjejpkognjedpaaDoorEvs13
namespace Go.Proofs.YtjejpkognjedpaaDoor
open Go.RowKit

theorem Moved.orl {w w' : World} {F F' : Nat → Prop} (h : Moved w w' F F') (G : Nat → Prop) : Moved w w' (fun k => F k ∨ G k) (fun k => F' k ∨ G k) :=
  ⟨h.os, h.tape, h.output, h.size, fun k hk hn => h.block k hk (fun e => hn (Or.inl e)), fun k hk => hk.elim (fun e => (h.sub k e).elim (fun e => Or.inl (Or.inl e)) Or.inr) (fun e => Or.inl (Or.inr e))⟩
theorem Moved.orr {w w' : World} {G G' : Nat → Prop} (h : Moved w w' G G') (F : Nat → Prop) : Moved w w' (fun k => F k ∨ G k) (fun k => F k ∨ G' k) :=
  ⟨h.os, h.tape, h.output, h.size, fun k hk hn => h.block k hk (fun e => hn (Or.inr e)), fun k hk => hk.elim (fun e => Or.inl (Or.inl e)) (fun e => (h.sub k e).elim (fun e => Or.inl (Or.inr e)) Or.inr)⟩
/-- Both watches, apart from each other. -/
structure Bo13 (LW : Rep13) (W w : World) (q r : Nat) (s1 s2 : Hq.St) (F G : Nat → Prop) : Prop where
  mine : Mine13 LW W w q s1 F
  ref : LRf w r s2 G
  fine : Hq.Fine s2
  hi : ∀ k, G k → W.heap.size ≤ k
  off : ∀ k, F k → ¬ G k
section
variable {LW : Rep13} {W w w' : World} {q r : Nat} {s1 s2 s1' s2' : Hq.St} {F G F' G' : Nat → Prop}
theorem Bo13.first (h : Bo13 LW W w q r s1 s2 F G) (hm : Mine13 LW W w' q s1' F') (hv : Moved w w' F F') : Bo13 LW W w' q r s1' s2 F' G :=
  ⟨hm, LRf.keep h.ref fun k hk => hv.block k (LRf.lt h.ref hk) (fun e => h.off k e hk), h.fine, h.hi, fun k hk e => (hv.sub k hk).elim (fun e2 => h.off k e2 e) (fun e2 => by have := LRf.lt h.ref e; omega)⟩
theorem Bo13.second (S : Specs13 LW) (h : Bo13 LW W w q r s1 s2 F G) (hr : LRf w' r s2' G') (hf : Hq.Fine s2') (hv : Moved w w' G G') : Bo13 LW W w' q r s1 s2' F G' := by
  have hs := h.mine.below.size
  refine ⟨⟨S.keep h.mine.ld fun k hk => hv.block k (S.lt h.mine.ld hk) (h.off k hk), h.mine.fine, h.mine.hi, h.mine.below.trans (hv.below hs h.hi)⟩, hr, hf, fun k hk => (hv.sub k hk).elim (h.hi k) (fun e => by omega), fun k hk e => (hv.sub k e).elim (h.off k hk) (fun e2 => by have := S.lt h.mine.ld hk; omega)⟩
theorem Bo13.later (S : Specs13 LW) (h : Bo13 LW W w q r s1 s2 F G) (hb : Below w.heap.size w w') : Bo13 LW W w' q r s1 s2 F G := h.first (h.mine.later S hb) (Moved.of_below F hb)
end

theorem Kept13.all {w' : World} {F : Nat → Prop} {ab : Nat} {x : Hq.Ac} {t : TypeId} (h : Kept13 w' F ab (aac13 x) t) : w'.cell? ⟨ab, 0, none⟩ = some (.int .i64 x.op) ∧ w'.cell? ⟨ab, 1, none⟩ = some (.int .i64 x.sess) ∧ w'.cell? ⟨ab, 2, none⟩ = some (.string x.p) ∧ w'.cell? ⟨ab, 3, none⟩ = some (.int .i64 x.kind) := ⟨h.cb.cell 0, h.cb.cell 1, h.cb.cell 2, h.cb.cell 3⟩
set_option maxRecDepth 20000 in
set_option maxHeartbeats 16000000 in
theorem plays_any13 {LW : Rep13} (S : Specs13 LW) (room : Int) (v : Value) (xs : List Hq.Ac) (W : World) (hS : Pa.Std W) (hv : Acl13 W v xs) (hl : xs.length ≤ maxLen) (hok : ∀ x ∈ xs, AcOk13 x) :
    Calls Tryd.prog 4 #[.int .i64 room, v] W fun e w' => e = .returned (.bool true) ∧ Below W.heap.size W w' := by
  have HS : Hid (Specs13 LW ∧ Pa.Std W ∧ (∀ x ∈ xs, AcOk13 x)) := ⟨S, hS, hok⟩
  obtain ⟨av, N, c, rfl, hN, hj⟩ := hv
  have HV : Hid (Acl13 W (.slice av N c) xs ∧ N = xs.length) := ⟨⟨av, N, c, rfl, hN, hj⟩, hN⟩
  have hN1 : N ≤ 9223372036854775807 := by unfold maxLen at hl; omega
  clear S hS hok hl hN hj
  go_enter Tryd.func4, Tryd.ntmps4
  go_wp2_with fail
  refine (awake_any13 HS.out.1 W HS.out.2.1).mono ?_
  rintro e w0 ⟨rfl, hb0⟩
  have H0 : Hid (Below W.heap.size W w0) := hb0
  clear hb0
  by_cases hr : room < 1 ∨ 1000 < room
  · go_wp2_with fail
    refine (mine13_no HS.out.1 room hr w0).mono ?_
    rintro e w1 ⟨rfl, hb1⟩
    have H1 : Hid (Below W.heap.size W w1) := H0.out.trans (hb1.mono H0.out.size)
    clear hb1
    by_cases hr1 : room < 1
    · clear hr
      go_wp2
      go_ret
      exact ⟨rfl, H1.out⟩
    · have hr2 : 1000 < room := hr.resolve_left hr1
      clear hr
      go_wp2
      go_ret
      exact ⟨rfl, H1.out⟩
  have hr1 : ¬ room < 1 := fun e => hr (Or.inl e)
  have hr2 : ¬ 1000 < room := fun e => hr (Or.inr e)
  have HRM : Hid (1 ≤ room ∧ room ≤ 1000) := ⟨by omega, by omega⟩
  clear hr
  go_wp2_with fail
  refine (mine13_new HS.out.1 H0.out room HRM.out).mono ?_
  rintro e w1 ⟨q, F1, rfl, hM⟩
  have M1 : Hid (Mine13 LW W w1 q ⟨room, []⟩ F1) := hM
  clear hM H0
  by_cases h40 : 100 < N
  · have h40' : (100 : Int) < (N : Int) := by omega
    go_wp2
    go_ret
    exact ⟨rfl, M1.out.below⟩
  have h40' : ¬ (100 : Int) < (N : Int) := by omega
  obtain ⟨r, hrr⟩ : ∃ z, z = w1.heap.size := ⟨_, rfl⟩
  have H2 : Hid (∃ G, Bo13 LW W (w1.alloc (.cells #[.int .i64 room, .slice none 0 0] 38)) q r ⟨room, []⟩ ⟨room, []⟩ F1 G) := by
    have hb := (Below.refl _ w1).alloc (Nat.le_refl _) (.cells #[.int .i64 room, .slice none 0 0] 38)
    have hs := M1.out.below.size
    rw [hrr]
    refine ⟨Fw13 (.slice none 0 0) w1.heap.size, M1.out.later HS.out.1 hb, ⟨_, ⟨Cb.made w1 _ _, World.ownsRow_nil _ _ _ _⟩, rfl⟩, M1.out.fine, fun k hk => ?_, fun k hk e => ?_⟩
    · rcases hk with hk | rfl
      · cases hk
      · exact hs
    · have h1 := HS.out.1.lt M1.out.ld hk
      rcases e with e | e
      · cases e
      · omega
  go_upto_region 9 with fail
  rw [← hrr]
  clear hrr M1
  generalize (w1.alloc (.cells #[.int .i64 room, .slice none 0 0] 38)) = w2 at *
  go_wp2
  go_loopw [8] (fun i wx => ∃ (k : Nat) (s : Hq.St) (F G : Nat → Prop), k ≤ N ∧ i = .int .i64 (k : Int) ∧ Bo13 LW W wx q r s s F G) (fun i _ => N - (intOf i).toNat)
  case atStart =>
    obtain ⟨G, hG⟩ := H2.out
    exact ⟨0, _, F1, G, Nat.zero_le _, rfl, hG⟩
  case round =>
    obtain ⟨k, s, F, G, hk, rfl, hB⟩ := hrel
    have H3 : Hid (Bo13 LW W wr q r s s F G) := hB
    clear hB H2
    by_cases hlt : k < N
    · have hlt' : (k : Int) < (N : Int) := by omega
      have hk0 : (0 : Int) ≤ (k : Int) := by omega
      have hwk : IntKind.wrap .i64 ((k : Int) + 1) = (k : Int) + 1 := by rw [IntKind.wrap_i64]; omega
      obtain ⟨x, hx⟩ : ∃ x, xs[k]? = some x := ⟨xs[k]'(by rw [← HV.out.2]; exact hlt), List.getElem?_eq_getElem _⟩
      have HX : Hid (xs[k]? = some x ∧ AcOk13 x) := ⟨hx, HS.out.2.2 x (List.mem_of_getElem? hx)⟩
      obtain ⟨g, o, rfl, c0, c1, c2, c3⟩ := (HV.out.1.below H3.out.mine.below).at hx
      clear hx
      have hsz : x.p.size ≤ 9223372036854775807 := by have h := HX.out.2.p; unfold maxLen at h; omega
      obtain ⟨ab, hab⟩ : ∃ z, z = wr.heap.size := ⟨_, rfl⟩
      have H4 : Hid (Bo13 LW W (wr.alloc (.cells #[.int .i64 x.op, .int .i64 x.sess, .string x.p, .int .i64 x.kind] 40)) q r s s F G ∧ Kept13 (wr.alloc (.cells #[.int .i64 x.op, .int .i64 x.sess, .string x.p, .int .i64 x.kind] 40)) (fun k => F k ∨ G k) ab (aac13 x) 40) := by
        have hb := (Below.refl _ wr).alloc (Nat.le_refl _) (.cells #[.int .i64 x.op, .int .i64 x.sess, .string x.p, .int .i64 x.kind] 40)
        rw [hab]
        exact ⟨H3.out.later HS.out.1 hb, Kept13.made wr _ (fun k hk => hk.elim (fun e => HS.out.1.lt H3.out.mine.ld e) (fun e => LRf.lt H3.out.ref e)) (aac13 x) _⟩
      go_upto_region 13 with fail
      rw [← hab]
      clear hab c0 c1 c2 c3 H3
      generalize (wr.alloc (.cells #[.int .i64 x.op, .int .i64 x.sess, .string x.p, .int .i64 x.kind] 40)) = w3 at *
      have a0 : w3.cell? ⟨ab, 0, none⟩ = some (.int .i64 x.op) := H4.out.2.cb.cell 0
      have a2 : w3.cell? ⟨ab, 2, none⟩ = some (.string x.p) := H4.out.2.cb.cell 2
      by_cases h3 : 300 < x.p.size
      · have h3' : (300 : Int) < (x.p.size : Int) := by omega
        go_wp2
        go_ret
        exact ⟨rfl, H4.out.1.mine.below⟩
      have h3' : ¬ (300 : Int) < (x.p.size : Int) := by omega
      by_cases ho0 : x.op = 0
      · have hob : (x.op == 0) = true := by simp [ho0]
        clear ho0
        go_upto_region 19 with fail
        clear a0 a2
        refine wp_region_held_drew (S := fun w' => w'.cell? ⟨ab, 0, none⟩ = some (.int .i64 x.op) ∧ w'.cell? ⟨ab, 1, none⟩ = some (.int .i64 x.sess) ∧ w'.cell? ⟨ab, 2, none⟩ = some (.string x.p) ∧ w'.cell? ⟨ab, 3, none⟩ = some (.int .i64 x.kind)) (by kernel_rfl) H4.out.2.all (fun _ => ?_)
        have H5 : Hid (Bo13 LW W w3.drew q r s s F G ∧ Kept13 w3.drew (fun k => F k ∨ G k) ab (aac13 x) 40) := ⟨H4.out.1.later HS.out.1 (Below.refl _ _).drew, H4.out.2.later (Below.refl _ _).drew⟩
        clear H4
        generalize w3.drew = w4 at *
        refine' take_at (i := 0) (d := 69) (v := _) rfl rfl (by kernel_rfl) (by kernel_rfl) (by kernel_rfl) (fun _ _ _ h => h) (Or.inl ⟨by rfl, ?h0⟩) (H5.out.2.all) ?_
        case h0 =>
          intro w hSw
          obtain ⟨t0, t1, t2, t3⟩ := hSw
          go_simp
          with_reducible rfl
        simp only [List.setIfInBounds_toArray, List.set_cons_zero, List.set_cons_succ]
        refine' take_at (i := 1) (d := 70) (v := _) rfl rfl (by kernel_rfl) (by kernel_rfl) (by kernel_rfl) (fun _ _ _ h => h) (Or.inl ⟨by rfl, ?h1⟩) (H5.out.2.all) ?_
        case h1 =>
          intro w hSw
          obtain ⟨t0, t1, t2, t3⟩ := hSw
          go_simp
          with_reducible rfl
        simp only [List.setIfInBounds_toArray, List.set_cons_zero, List.set_cons_succ]
        refine' take_at (i := 2) (d := 71) (v := _) rfl rfl (by kernel_rfl) (by kernel_rfl) (by kernel_rfl) (fun _ _ _ h => h) (Or.inl ⟨by rfl, ?h2⟩) (H5.out.2.all) ?_
        case h2 =>
          intro w hSw
          obtain ⟨t0, t1, t2, t3⟩ := hSw
          go_simp
          with_reducible rfl
        simp only [List.setIfInBounds_toArray, List.set_cons_zero, List.set_cons_succ]
        refine' take_at (i := 3) (d := 72) (v := _) rfl rfl (by kernel_rfl) (by kernel_rfl) (by kernel_rfl) (fun _ _ _ h => h) (Or.inl ⟨by rfl, ?h3⟩) (H5.out.2.all) ?_
        case h3 =>
          intro w hSw
          obtain ⟨t0, t1, t2, t3⟩ := hSw
          go_simp
          with_reducible rfl
        simp only [List.setIfInBounds_toArray, List.set_cons_zero, List.set_cons_succ]
        refine' take_at (i := 4) (d := 73) (v := _) rfl rfl (by kernel_rfl) (by kernel_rfl) (by kernel_rfl) (fun _ _ _ h => h) (Or.inl ⟨by rfl, ?h4⟩) (H5.out.2.all) ?_
        case h4 =>
          intro w hSw
          obtain ⟨t0, t1, t2, t3⟩ := hSw
          go_simp
          with_reducible rfl
        simp only [List.setIfInBounds_toArray, List.set_cons_zero, List.set_cons_succ]
        refine' take_at (i := 5) (d := 74) (v := _) rfl rfl (by kernel_rfl) (by kernel_rfl) (by kernel_rfl) (fun _ _ _ h => h) (Or.inl ⟨by rfl, ?h5⟩) (H5.out.2.all) ?_
        case h5 =>
          intro w hSw
          obtain ⟨t0, t1, t2, t3⟩ := hSw
          go_simp
          with_reducible rfl
        simp only [List.setIfInBounds_toArray, List.set_cons_zero, List.set_cons_succ]
        refine' take_at (i := 6) (d := 75) (v := _) rfl rfl (by kernel_rfl) (by kernel_rfl) (by kernel_rfl) (fun _ _ _ h => h) (Or.inl ⟨by rfl, ?h6⟩) (H5.out.2.all) ?_
        case h6 =>
          intro w hSw
          obtain ⟨t0, t1, t2, t3⟩ := hSw
          go_simp
          with_reducible rfl
        simp only [List.setIfInBounds_toArray, List.set_cons_zero, List.set_cons_succ]
        refine' take_at (i := 8) (d := 77) (v := _) rfl rfl (by kernel_rfl) (by kernel_rfl) (by kernel_rfl) (fun _ _ _ h => h) (Or.inl ⟨by rfl, ?h8⟩) (H5.out.2.all) ?_
        case h8 =>
          intro w hSw
          obtain ⟨t0, t1, t2, t3⟩ := hSw
          go_simp
          with_reducible rfl
        simp only [List.setIfInBounds_toArray, List.set_cons_zero, List.set_cons_succ]
        refine' take_at (i := 9) (d := 78) (v := _) rfl rfl (by kernel_rfl) (by kernel_rfl) (by kernel_rfl) (fun _ _ _ h => h) (Or.inl ⟨by rfl, ?h9⟩) (H5.out.2.all) ?_
        case h9 =>
          intro w hSw
          obtain ⟨t0, t1, t2, t3⟩ := hSw
          go_simp
          with_reducible rfl
        simp only [List.setIfInBounds_toArray, List.set_cons_zero, List.set_cons_succ]
        refine' take_at (i := 10) (d := 79) (v := _) rfl rfl (by kernel_rfl) (by kernel_rfl) (by kernel_rfl) (fun _ _ _ h => h) (Or.inl ⟨by rfl, ?h10⟩) (H5.out.2.all) ?_
        case h10 =>
          intro w hSw
          obtain ⟨t0, t1, t2, t3⟩ := hSw
          go_simp
          with_reducible rfl
        simp only [List.setIfInBounds_toArray, List.set_cons_zero, List.set_cons_succ]
        refine' take_at (i := 11) (d := 80) (v := _) rfl rfl (by kernel_rfl) (by kernel_rfl) (by kernel_rfl) (fun _ _ _ h => h) (Or.inl ⟨by rfl, ?h11⟩) (H5.out.2.all) ?_
        case h11 =>
          intro w hSw
          obtain ⟨t0, t1, t2, t3⟩ := hSw
          go_simp
          with_reducible rfl
        simp only [List.setIfInBounds_toArray, List.set_cons_zero, List.set_cons_succ]
        refine' take_at (i := 12) (d := 81) (v := _) rfl rfl (by kernel_rfl) (by kernel_rfl) (by kernel_rfl) (fun _ _ _ h => h) (Or.inl ⟨by rfl, ?h12⟩) (H5.out.2.all) ?_
        case h12 =>
          intro w hSw
          obtain ⟨t0, t1, t2, t3⟩ := hSw
          go_simp
          with_reducible rfl
        simp only [List.setIfInBounds_toArray, List.set_cons_zero, List.set_cons_succ]
        refine' take_at (i := 13) (d := 82) (v := _) rfl rfl (by kernel_rfl) (by kernel_rfl) (by kernel_rfl) (fun _ _ _ h => h) (Or.inl ⟨by rfl, ?h13⟩) (H5.out.2.all) ?_
        case h13 =>
          intro w hSw
          obtain ⟨t0, t1, t2, t3⟩ := hSw
          go_simp
          with_reducible rfl
        simp only [List.setIfInBounds_toArray, List.set_cons_zero, List.set_cons_succ]
        refine' take_at (i := 14) (d := 83) (v := _) rfl rfl (by kernel_rfl) (by kernel_rfl) (by kernel_rfl) (fun _ _ _ h => h) (Or.inl ⟨by rfl, ?h14⟩) (H5.out.2.all) ?_
        case h14 =>
          intro w hSw
          obtain ⟨t0, t1, t2, t3⟩ := hSw
          go_simp
          with_reducible rfl
        simp only [List.setIfInBounds_toArray, List.set_cons_zero, List.set_cons_succ]
        refine wpAnyH_ready (rs := [7]) (by kernel_rfl) (by simp) ?_
        refine AllReadyH.cons (o := _) rfl (fun KQ hKQ => ?_) AllReadyH.nil
        go_simp
        obtain ⟨z, s6, hzs⟩ : ∃ z s6, Hq.arm s x.wt = (z, s6) := ⟨_, _, rfl⟩
        have HZ : Hid (Hq.arm s x.wt = (z, s6)) := hzs
        clear hzs
        refine (H5.out.1.mine.arm HS.out.1 HS.out.2.1 x.sess x.p x.kind HX.out.2.p z s6 HZ.out).mono ?_
        rintro e w5 ⟨F6, rfl, hM5, hv5⟩
        have H55 : Hid (Bo13 LW W w5 q r s6 s F6 G ∧ Kept13 w5 (fun k => F6 k ∨ G k) ab (aac13 x) 40) := ⟨H5.out.1.first hM5 hv5, H5.out.2.moved (hv5.orl G)⟩
        clear hM5 hv5 H5
        refine hKQ.out _ _ H55.out.2.all (fun _ => ?_)
        clear hKQ KQ
        refine wpAnyH_ready (rs := [15]) (by kernel_rfl) (by simp) ?_
        refine AllReadyH.cons (o := _) rfl (fun KQ hKQ => ?_) AllReadyH.nil
        go_simp
        have HRA : Hid (Calls Tryd.prog 14 #[dptr r, .int .i64 x.sess, .string x.p, .int .i64 x.kind] w5 fun e w' => ∃ F', e = .returned (.int .i64 z) ∧ LRf w' r s6 F' ∧ Moved w5 w' G F') := by
          have h := refArm_any13 r s G x.wt w5 H55.out.1.ref H55.out.1.fine HX.out.2.p
          rw [HZ.out] at h
          exact h
        refine HRA.out.mono ?_
        rintro e w6 ⟨G6, rfl, hR6, hv6⟩
        have H6b : Hid (Bo13 LW W w6 q r s6 s6 F6 G6 ∧ Kept13 w6 (fun k => F6 k ∨ G6 k) ab (aac13 x) 40) := by
          have hf := H55.out.1.mine.fine
          exact ⟨H55.out.1.second HS.out.1 hR6 hf hv6, H55.out.2.moved (hv6.orr F6)⟩
        clear hR6 hv6 H55 HRA
        refine hKQ.out _ _ H6b.out.2.all (fun _ => ?_)
        clear hKQ KQ
        have hzz : (z == z) = true := by simp
        refine' take_at (i := 16) (d := 85) (v := _) rfl rfl (by kernel_rfl) (by kernel_rfl) (by kernel_rfl) (fun _ _ _ h => h) (Or.inl ⟨by rfl, ?h16⟩) (H6b.out.2.all) ?_
        case h16 =>
          intro w hSw
          clear hSw
          go_simp
          with_reducible rfl
        simp only [List.setIfInBounds_toArray, List.set_cons_zero, List.set_cons_succ]
        refine' take_at (i := 17) (d := 10) (v := _) rfl rfl (by kernel_rfl) (by kernel_rfl) (by kernel_rfl) (fun _ _ _ h => h) (Or.inl ⟨by rfl, ?h17⟩) (H6b.out.2.all) ?_
        case h17 =>
          intro w hSw
          clear hSw
          go_simp
          with_reducible rfl
        simp only [List.setIfInBounds_toArray, List.set_cons_zero, List.set_cons_succ]
        refine wpAnyH_done (by kernel_rfl) ?_ _
        have H6 : Hid (Bo13 LW W w6 q r s6 s6 F6 G6) := H6b.out.1
        clear H6b
        obtain ⟨v2, hv2, hG2⟩ := H6.out.ref
        obtain ⟨L, hL⟩ : ∃ L, L = s6.l.length := ⟨_, rfl⟩
        have hr2 := hv2.row
        rw [← hL] at hr2
        obtain ⟨a2, c2, e2, j1, j2⟩ := row_form hr2
        subst e2
        have HV2 : Hid (Rr13 w6 r s6 (.slice a2 L c2) ∧ L = s6.l.length) := ⟨hv2, hL⟩
        have hL1 : L ≤ 1000 := by rw [hL]; exact H6.out.fine.len
        clear hv2 hG2 hr2 j1 j2 hL
        go_upto_region 22 with fail
        refine wp_region_held_drew (S := fun w' => w'.cell? ⟨r, 1, none⟩ = some (.slice a2 L c2)) (by kernel_rfl) (HV2.out.1.blk.cell 1) (fun _ => ?_)
        have H7 : Hid (Bo13 LW W w6.drew q r s6 s6 F6 G6 ∧ Rr13 w6.drew r s6 (.slice a2 L c2)) := ⟨H6.out.later HS.out.1 (Below.refl _ _).drew, HV2.out.1.later (Below.refl _ _).drew⟩
        clear H6
        generalize w6.drew = w7 at *
        refine' take_at (i := 0) (d := 101) (v := _) rfl rfl (by kernel_rfl) (by kernel_rfl) (by kernel_rfl) (fun _ _ _ h => h) (Or.inl ⟨by rfl, ?h0⟩) (H7.out.2.blk.cell 1) ?_
        case h0 =>
          intro w hSw
          go_simp
          with_reducible rfl
        simp only [List.setIfInBounds_toArray, List.set_cons_zero, List.set_cons_succ]
        refine' take_at (i := 1) (d := 102) (v := _) rfl rfl (by kernel_rfl) (by kernel_rfl) (by kernel_rfl) (fun _ _ _ h => h) (Or.inl ⟨by rfl, ?h1⟩) (H7.out.2.blk.cell 1) ?_
        case h1 =>
          intro w hSw
          go_simp
          with_reducible rfl
        simp only [List.setIfInBounds_toArray, List.set_cons_zero, List.set_cons_succ]
        refine' take_at (i := 2) (d := 103) (v := _) rfl rfl (by kernel_rfl) (by kernel_rfl) (by kernel_rfl) (fun _ _ _ h => h) (Or.inl ⟨by rfl, ?h2⟩) (H7.out.2.blk.cell 1) ?_
        case h2 =>
          intro w hSw
          go_simp
          with_reducible rfl
        simp only [List.setIfInBounds_toArray, List.set_cons_zero, List.set_cons_succ]
        refine' take_at (i := 3) (d := 104) (v := _) rfl rfl (by kernel_rfl) (by kernel_rfl) (by kernel_rfl) (fun _ _ _ h => h) (Or.inl ⟨by rfl, ?h3⟩) (H7.out.2.blk.cell 1) ?_
        case h3 =>
          intro w hSw
          go_simp
          with_reducible rfl
        simp only [List.setIfInBounds_toArray, List.set_cons_zero, List.set_cons_succ]
        refine' take_at (i := 5) (d := 106) (v := _) rfl rfl (by kernel_rfl) (by kernel_rfl) (by kernel_rfl) (fun _ _ _ h => h) (Or.inl ⟨by rfl, ?h5⟩) (H7.out.2.blk.cell 1) ?_
        case h5 =>
          intro w hSw
          go_simp
          with_reducible rfl
        simp only [List.setIfInBounds_toArray, List.set_cons_zero, List.set_cons_succ]
        refine' take_at (i := 6) (d := 107) (v := _) rfl rfl (by kernel_rfl) (by kernel_rfl) (by kernel_rfl) (fun _ _ _ h => h) (Or.inl ⟨by rfl, ?h6⟩) (H7.out.2.blk.cell 1) ?_
        case h6 =>
          intro w hSw
          go_simp
          with_reducible rfl
        simp only [List.setIfInBounds_toArray, List.set_cons_zero, List.set_cons_succ]
        refine' take_at (i := 7) (d := 108) (v := _) rfl rfl (by kernel_rfl) (by kernel_rfl) (by kernel_rfl) (fun _ _ _ h => h) (Or.inl ⟨by rfl, ?h7⟩) (H7.out.2.blk.cell 1) ?_
        case h7 =>
          intro w hSw
          go_simp
          with_reducible rfl
        simp only [List.setIfInBounds_toArray, List.set_cons_zero, List.set_cons_succ]
        refine' take_at (i := 8) (d := 109) (v := _) rfl rfl (by kernel_rfl) (by kernel_rfl) (by kernel_rfl) (fun _ _ _ h => h) (Or.inl ⟨by rfl, ?h8⟩) (H7.out.2.blk.cell 1) ?_
        case h8 =>
          intro w hSw
          go_simp
          with_reducible rfl
        simp only [List.setIfInBounds_toArray, List.set_cons_zero, List.set_cons_succ]
        refine' take_at (i := 9) (d := 110) (v := _) rfl rfl (by kernel_rfl) (by kernel_rfl) (by kernel_rfl) (fun _ _ _ h => h) (Or.inl ⟨by rfl, ?h9⟩) (H7.out.2.blk.cell 1) ?_
        case h9 =>
          intro w hSw
          go_simp
          with_reducible rfl
        simp only [List.setIfInBounds_toArray, List.set_cons_zero, List.set_cons_succ]
        refine wpAnyH_ready (rs := [4]) (by kernel_rfl) (by simp) ?_
        refine AllReadyH.cons (o := _) rfl (fun KQ hKQ => ?_) AllReadyH.nil
        go_simp
        refine (H7.out.1.mine.len HS.out.1 L HV2.out.2.symm).mono ?_
        rintro e w8 ⟨rfl, hM8, hb8⟩
        have H8 : Hid (Bo13 LW W w8 q r s6 s6 F6 G6 ∧ Rr13 w8 r s6 (.slice a2 L c2)) := ⟨H7.out.1.later HS.out.1 hb8, H7.out.2.later hb8⟩
        clear hM8 hb8 H7
        refine hKQ.out _ _ (H8.out.2.blk.cell 1) (fun _ => ?_)
        clear hKQ KQ
        have hLL : ((L : Int) != (L : Int)) = false := by simp
        refine' take_at (i := 10) (d := 111) (v := _) rfl rfl (by kernel_rfl) (by kernel_rfl) (by kernel_rfl) (fun _ _ _ h => h) (Or.inl ⟨by rfl, ?h10⟩) (H8.out.2.blk.cell 1) ?_
        case h10 =>
          intro w hSw
          go_simp
          with_reducible rfl
        simp only [List.setIfInBounds_toArray, List.set_cons_zero, List.set_cons_succ]
        refine' take_at (i := 11) (d := 112) (v := _) rfl rfl (by kernel_rfl) (by kernel_rfl) (by kernel_rfl) (fun _ _ _ h => h) (Or.inl ⟨by rfl, ?h11⟩) (H8.out.2.blk.cell 1) ?_
        case h11 =>
          intro w hSw
          go_simp
          with_reducible rfl
        simp only [List.setIfInBounds_toArray, List.set_cons_zero, List.set_cons_succ]
        refine wpAnyH_done (by kernel_rfl) ?_ _
        go_wp2
        go_roundw
        case rel => exact ⟨k + 1, s6, F6, G6, by omega, by go_num, H8.out.1⟩
        case measure => simp [intOf]; omega
      · have hob : (x.op == 0) = false := by simp [ho0]
        by_cases ho1 : x.op = 1
        · have hob1 : (x.op == 1) = true := by simp [ho1]
          clear ho0 ho1
          go_upto_region 21 with fail
          clear a0 a2
          refine wp_region_held_drew (S := fun w' => w'.cell? ⟨ab, 0, none⟩ = some (.int .i64 x.op) ∧ w'.cell? ⟨ab, 1, none⟩ = some (.int .i64 x.sess) ∧ w'.cell? ⟨ab, 2, none⟩ = some (.string x.p) ∧ w'.cell? ⟨ab, 3, none⟩ = some (.int .i64 x.kind)) (by kernel_rfl) H4.out.2.all (fun _ => ?_)
          have H5 : Hid (Bo13 LW W w3.drew q r s s F G ∧ Kept13 w3.drew (fun k => F k ∨ G k) ab (aac13 x) 40) := ⟨H4.out.1.later HS.out.1 (Below.refl _ _).drew, H4.out.2.later (Below.refl _ _).drew⟩
          clear H4
          generalize w3.drew = w4 at *
          refine' take_at (i := 0) (d := 88) (v := _) rfl rfl (by kernel_rfl) (by kernel_rfl) (by kernel_rfl) (fun _ _ _ h => h) (Or.inl ⟨by rfl, ?h0⟩) (H5.out.2.all) ?_
          case h0 =>
            intro w hSw
            obtain ⟨t0, t1, t2, t3⟩ := hSw
            go_simp
            with_reducible rfl
          simp only [List.setIfInBounds_toArray, List.set_cons_zero, List.set_cons_succ]
          refine' take_at (i := 1) (d := 89) (v := _) rfl rfl (by kernel_rfl) (by kernel_rfl) (by kernel_rfl) (fun _ _ _ h => h) (Or.inl ⟨by rfl, ?h1⟩) (H5.out.2.all) ?_
          case h1 =>
            intro w hSw
            obtain ⟨t0, t1, t2, t3⟩ := hSw
            go_simp
            with_reducible rfl
          simp only [List.setIfInBounds_toArray, List.set_cons_zero, List.set_cons_succ]
          refine' take_at (i := 2) (d := 90) (v := _) rfl rfl (by kernel_rfl) (by kernel_rfl) (by kernel_rfl) (fun _ _ _ h => h) (Or.inl ⟨by rfl, ?h2⟩) (H5.out.2.all) ?_
          case h2 =>
            intro w hSw
            obtain ⟨t0, t1, t2, t3⟩ := hSw
            go_simp
            with_reducible rfl
          simp only [List.setIfInBounds_toArray, List.set_cons_zero, List.set_cons_succ]
          refine' take_at (i := 3) (d := 91) (v := _) rfl rfl (by kernel_rfl) (by kernel_rfl) (by kernel_rfl) (fun _ _ _ h => h) (Or.inl ⟨by rfl, ?h3⟩) (H5.out.2.all) ?_
          case h3 =>
            intro w hSw
            obtain ⟨t0, t1, t2, t3⟩ := hSw
            go_simp
            with_reducible rfl
          simp only [List.setIfInBounds_toArray, List.set_cons_zero, List.set_cons_succ]
          refine' take_at (i := 4) (d := 92) (v := _) rfl rfl (by kernel_rfl) (by kernel_rfl) (by kernel_rfl) (fun _ _ _ h => h) (Or.inl ⟨by rfl, ?h4⟩) (H5.out.2.all) ?_
          case h4 =>
            intro w hSw
            obtain ⟨t0, t1, t2, t3⟩ := hSw
            go_simp
            with_reducible rfl
          simp only [List.setIfInBounds_toArray, List.set_cons_zero, List.set_cons_succ]
          refine' take_at (i := 6) (d := 94) (v := _) rfl rfl (by kernel_rfl) (by kernel_rfl) (by kernel_rfl) (fun _ _ _ h => h) (Or.inl ⟨by rfl, ?h6⟩) (H5.out.2.all) ?_
          case h6 =>
            intro w hSw
            obtain ⟨t0, t1, t2, t3⟩ := hSw
            go_simp
            with_reducible rfl
          simp only [List.setIfInBounds_toArray, List.set_cons_zero, List.set_cons_succ]
          refine' take_at (i := 7) (d := 95) (v := _) rfl rfl (by kernel_rfl) (by kernel_rfl) (by kernel_rfl) (fun _ _ _ h => h) (Or.inl ⟨by rfl, ?h7⟩) (H5.out.2.all) ?_
          case h7 =>
            intro w hSw
            obtain ⟨t0, t1, t2, t3⟩ := hSw
            go_simp
            with_reducible rfl
          simp only [List.setIfInBounds_toArray, List.set_cons_zero, List.set_cons_succ]
          refine' take_at (i := 8) (d := 96) (v := _) rfl rfl (by kernel_rfl) (by kernel_rfl) (by kernel_rfl) (fun _ _ _ h => h) (Or.inl ⟨by rfl, ?h8⟩) (H5.out.2.all) ?_
          case h8 =>
            intro w hSw
            obtain ⟨t0, t1, t2, t3⟩ := hSw
            go_simp
            with_reducible rfl
          simp only [List.setIfInBounds_toArray, List.set_cons_zero, List.set_cons_succ]
          refine' take_at (i := 9) (d := 97) (v := _) rfl rfl (by kernel_rfl) (by kernel_rfl) (by kernel_rfl) (fun _ _ _ h => h) (Or.inl ⟨by rfl, ?h9⟩) (H5.out.2.all) ?_
          case h9 =>
            intro w hSw
            obtain ⟨t0, t1, t2, t3⟩ := hSw
            go_simp
            with_reducible rfl
          simp only [List.setIfInBounds_toArray, List.set_cons_zero, List.set_cons_succ]
          refine' take_at (i := 10) (d := 98) (v := _) rfl rfl (by kernel_rfl) (by kernel_rfl) (by kernel_rfl) (fun _ _ _ h => h) (Or.inl ⟨by rfl, ?h10⟩) (H5.out.2.all) ?_
          case h10 =>
            intro w hSw
            obtain ⟨t0, t1, t2, t3⟩ := hSw
            go_simp
            with_reducible rfl
          simp only [List.setIfInBounds_toArray, List.set_cons_zero, List.set_cons_succ]
          refine wpAnyH_ready (rs := [5]) (by kernel_rfl) (by simp) ?_
          refine AllReadyH.cons (o := _) rfl (fun KQ hKQ => ?_) AllReadyH.nil
          go_simp
          obtain ⟨es, hes⟩ : ∃ es, es = Hq.events s x.p x.kind := ⟨_, rfl⟩
          obtain ⟨s6, hs6⟩ : ∃ s6, s6 = Hq.fired s x.p x.kind := ⟨_, rfl⟩
          have HZ : Hid (es = Hq.events s x.p x.kind ∧ s6 = Hq.fired s x.p x.kind ∧ es.length ≤ 1000) := ⟨hes, hs6, by
            have h1 := Hq.fired_len s x.p x.kind
            have h2 := H5.out.1.fine.len
            rw [← hes] at h1
            omega⟩
          clear hes hs6
          refine (H5.out.1.mine.fire HS.out.1 HS.out.2.1 x.p x.kind HX.out.2.p es s6 HZ.out.1.symm HZ.out.2.1.symm).mono ?_
          rintro e w5 ⟨F6, u5, rfl, hev5, hof5, hM5, hv5⟩
          have H55 : Hid (Bo13 LW W w5 q r s6 s F6 G ∧ Kept13 w5 (fun k => F6 k ∨ G k) ab (aac13 x) 40 ∧ Ek w5 (fun k => F6 k ∨ G k) u5 es) := ⟨H5.out.1.first hM5 hv5, H5.out.2.moved (hv5.orl G), ⟨hev5, fun _ k hk e => by
            rcases e with e | e
            · exact (hof5 k hk).2 e
            · have h1 := (hof5 k hk).1
              have h2 := LRf.lt H5.out.1.ref e
              omega⟩⟩
          clear hev5 hof5 hM5 hv5 H5
          refine hKQ.out _ _ H55.out.2.1.all (fun _ => ?_)
          clear hKQ KQ
          refine wpAnyH_ready (rs := [11]) (by kernel_rfl) (by simp) ?_
          refine AllReadyH.cons (o := _) rfl (fun KQ hKQ => ?_) AllReadyH.nil
          go_simp
          have HRA : Hid (Calls Tryd.prog 16 #[dptr r, .string x.p, .int .i64 x.kind] w5 fun e w' => ∃ F' v, e = .returned v ∧ Ev w' v es ∧ (∀ k, v.ownBlock = some k → w5.heap.size ≤ k ∧ ¬ F' k) ∧ LRf w' r s6 F' ∧ Moved w5 w' G F') := by
            have h := refFire_any13 r s G x.p x.kind w5 H55.out.1.ref H55.out.1.fine HX.out.2.p
            rw [← HZ.out.1, ← HZ.out.2.1] at h
            exact h
          refine HRA.out.mono ?_
          rintro e w6 ⟨G6, u6, rfl, hev6, hof6, hR6, hv6⟩
          have H66 : Hid (Bo13 LW W w6 q r s6 s6 F6 G6 ∧ Kept13 w6 (fun k => F6 k ∨ G6 k) ab (aac13 x) 40 ∧ Ev w6 u5 es ∧ Ev w6 u6 es) := by
            have hf := H55.out.1.mine.fine
            exact ⟨H55.out.1.second HS.out.1 hR6 hf hv6, H55.out.2.1.moved (hv6.orr F6), (H55.out.2.2.moved (hv6.orr F6)).ev, hev6⟩
          clear hev6 hof6 hR6 hv6 H55 HRA
          refine hKQ.out _ _ H66.out.2.1.all (fun _ => ?_)
          clear hKQ KQ
          refine wpAnyH_ready (rs := [12]) (by kernel_rfl) (by simp) ?_
          refine AllReadyH.cons (o := _) rfl (fun KQ hKQ => ?_) AllReadyH.nil
          go_simp
          refine (evs_any13 u5 u6 es w6 H66.out.2.2.1 H66.out.2.2.2 HZ.out.2.2).mono ?_
          rintro e w6b ⟨rfl, hb6⟩
          have H6b : Hid (Bo13 LW W w6b q r s6 s6 F6 G6 ∧ Kept13 w6b (fun k => F6 k ∨ G6 k) ab (aac13 x) 40) := ⟨H66.out.1.later HS.out.1 hb6, H66.out.2.1.later hb6⟩
          clear hb6 H66
          refine hKQ.out _ _ H6b.out.2.all (fun _ => ?_)
          clear hKQ KQ
          refine' take_at (i := 13) (d := 10) (v := _) rfl rfl (by kernel_rfl) (by kernel_rfl) (by kernel_rfl) (fun _ _ _ h => h) (Or.inl ⟨by rfl, ?h13⟩) (H6b.out.2.all) ?_
          case h13 =>
            intro w hSw
            clear hSw
            go_simp
            with_reducible rfl
          simp only [List.setIfInBounds_toArray, List.set_cons_zero, List.set_cons_succ]
          refine wpAnyH_done (by kernel_rfl) ?_ _
          generalize w6b = w6 at *
          have H6 : Hid (Bo13 LW W w6 q r s6 s6 F6 G6) := H6b.out.1
          clear H6b
          obtain ⟨v2, hv2, hG2⟩ := H6.out.ref
          obtain ⟨L, hL⟩ : ∃ L, L = s6.l.length := ⟨_, rfl⟩
          have hr2 := hv2.row
          rw [← hL] at hr2
          obtain ⟨a2, c2, e2, j1, j2⟩ := row_form hr2
          subst e2
          have HV2 : Hid (Rr13 w6 r s6 (.slice a2 L c2) ∧ L = s6.l.length) := ⟨hv2, hL⟩
          have hL1 : L ≤ 1000 := by rw [hL]; exact H6.out.fine.len
          clear hv2 hG2 hr2 j1 j2 hL
          go_upto_region 22 with fail
          refine wp_region_held_drew (S := fun w' => w'.cell? ⟨r, 1, none⟩ = some (.slice a2 L c2)) (by kernel_rfl) (HV2.out.1.blk.cell 1) (fun _ => ?_)
          have H7 : Hid (Bo13 LW W w6.drew q r s6 s6 F6 G6 ∧ Rr13 w6.drew r s6 (.slice a2 L c2)) := ⟨H6.out.later HS.out.1 (Below.refl _ _).drew, HV2.out.1.later (Below.refl _ _).drew⟩
          clear H6
          generalize w6.drew = w7 at *
          refine' take_at (i := 0) (d := 101) (v := _) rfl rfl (by kernel_rfl) (by kernel_rfl) (by kernel_rfl) (fun _ _ _ h => h) (Or.inl ⟨by rfl, ?h0⟩) (H7.out.2.blk.cell 1) ?_
          case h0 =>
            intro w hSw
            go_simp
            with_reducible rfl
          simp only [List.setIfInBounds_toArray, List.set_cons_zero, List.set_cons_succ]
          refine' take_at (i := 1) (d := 102) (v := _) rfl rfl (by kernel_rfl) (by kernel_rfl) (by kernel_rfl) (fun _ _ _ h => h) (Or.inl ⟨by rfl, ?h1⟩) (H7.out.2.blk.cell 1) ?_
          case h1 =>
            intro w hSw
            go_simp
            with_reducible rfl
          simp only [List.setIfInBounds_toArray, List.set_cons_zero, List.set_cons_succ]
          refine' take_at (i := 2) (d := 103) (v := _) rfl rfl (by kernel_rfl) (by kernel_rfl) (by kernel_rfl) (fun _ _ _ h => h) (Or.inl ⟨by rfl, ?h2⟩) (H7.out.2.blk.cell 1) ?_
          case h2 =>
            intro w hSw
            go_simp
            with_reducible rfl
          simp only [List.setIfInBounds_toArray, List.set_cons_zero, List.set_cons_succ]
          refine' take_at (i := 3) (d := 104) (v := _) rfl rfl (by kernel_rfl) (by kernel_rfl) (by kernel_rfl) (fun _ _ _ h => h) (Or.inl ⟨by rfl, ?h3⟩) (H7.out.2.blk.cell 1) ?_
          case h3 =>
            intro w hSw
            go_simp
            with_reducible rfl
          simp only [List.setIfInBounds_toArray, List.set_cons_zero, List.set_cons_succ]
          refine' take_at (i := 5) (d := 106) (v := _) rfl rfl (by kernel_rfl) (by kernel_rfl) (by kernel_rfl) (fun _ _ _ h => h) (Or.inl ⟨by rfl, ?h5⟩) (H7.out.2.blk.cell 1) ?_
          case h5 =>
            intro w hSw
            go_simp
            with_reducible rfl
          simp only [List.setIfInBounds_toArray, List.set_cons_zero, List.set_cons_succ]
          refine' take_at (i := 6) (d := 107) (v := _) rfl rfl (by kernel_rfl) (by kernel_rfl) (by kernel_rfl) (fun _ _ _ h => h) (Or.inl ⟨by rfl, ?h6⟩) (H7.out.2.blk.cell 1) ?_
          case h6 =>
            intro w hSw
            go_simp
            with_reducible rfl
          simp only [List.setIfInBounds_toArray, List.set_cons_zero, List.set_cons_succ]
          refine' take_at (i := 7) (d := 108) (v := _) rfl rfl (by kernel_rfl) (by kernel_rfl) (by kernel_rfl) (fun _ _ _ h => h) (Or.inl ⟨by rfl, ?h7⟩) (H7.out.2.blk.cell 1) ?_
          case h7 =>
            intro w hSw
            go_simp
            with_reducible rfl
          simp only [List.setIfInBounds_toArray, List.set_cons_zero, List.set_cons_succ]
          refine' take_at (i := 8) (d := 109) (v := _) rfl rfl (by kernel_rfl) (by kernel_rfl) (by kernel_rfl) (fun _ _ _ h => h) (Or.inl ⟨by rfl, ?h8⟩) (H7.out.2.blk.cell 1) ?_
          case h8 =>
            intro w hSw
            go_simp
            with_reducible rfl
          simp only [List.setIfInBounds_toArray, List.set_cons_zero, List.set_cons_succ]
          refine' take_at (i := 9) (d := 110) (v := _) rfl rfl (by kernel_rfl) (by kernel_rfl) (by kernel_rfl) (fun _ _ _ h => h) (Or.inl ⟨by rfl, ?h9⟩) (H7.out.2.blk.cell 1) ?_
          case h9 =>
            intro w hSw
            go_simp
            with_reducible rfl
          simp only [List.setIfInBounds_toArray, List.set_cons_zero, List.set_cons_succ]
          refine wpAnyH_ready (rs := [4]) (by kernel_rfl) (by simp) ?_
          refine AllReadyH.cons (o := _) rfl (fun KQ hKQ => ?_) AllReadyH.nil
          go_simp
          refine (H7.out.1.mine.len HS.out.1 L HV2.out.2.symm).mono ?_
          rintro e w8 ⟨rfl, hM8, hb8⟩
          have H8 : Hid (Bo13 LW W w8 q r s6 s6 F6 G6 ∧ Rr13 w8 r s6 (.slice a2 L c2)) := ⟨H7.out.1.later HS.out.1 hb8, H7.out.2.later hb8⟩
          clear hM8 hb8 H7
          refine hKQ.out _ _ (H8.out.2.blk.cell 1) (fun _ => ?_)
          clear hKQ KQ
          have hLL : ((L : Int) != (L : Int)) = false := by simp
          refine' take_at (i := 10) (d := 111) (v := _) rfl rfl (by kernel_rfl) (by kernel_rfl) (by kernel_rfl) (fun _ _ _ h => h) (Or.inl ⟨by rfl, ?h10⟩) (H8.out.2.blk.cell 1) ?_
          case h10 =>
            intro w hSw
            go_simp
            with_reducible rfl
          simp only [List.setIfInBounds_toArray, List.set_cons_zero, List.set_cons_succ]
          refine' take_at (i := 11) (d := 112) (v := _) rfl rfl (by kernel_rfl) (by kernel_rfl) (by kernel_rfl) (fun _ _ _ h => h) (Or.inl ⟨by rfl, ?h11⟩) (H8.out.2.blk.cell 1) ?_
          case h11 =>
            intro w hSw
            go_simp
            with_reducible rfl
          simp only [List.setIfInBounds_toArray, List.set_cons_zero, List.set_cons_succ]
          refine wpAnyH_done (by kernel_rfl) ?_ _
          go_wp2
          go_roundw
          case rel => exact ⟨k + 1, s6, F6, G6, by omega, by go_num, H8.out.1⟩
          case measure => simp [intOf]; omega
        · have hob1 : (x.op == 1) = false := by simp [ho1]
          clear ho0 ho1
          go_upto_region 17 with fail
          clear a0 a2
          refine wp_region_held_drew (S := fun w' => w'.cell? ⟨ab, 0, none⟩ = some (.int .i64 x.op) ∧ w'.cell? ⟨ab, 1, none⟩ = some (.int .i64 x.sess) ∧ w'.cell? ⟨ab, 2, none⟩ = some (.string x.p) ∧ w'.cell? ⟨ab, 3, none⟩ = some (.int .i64 x.kind)) (by kernel_rfl) H4.out.2.all (fun _ => ?_)
          have H5 : Hid (Bo13 LW W w3.drew q r s s F G ∧ Kept13 w3.drew (fun k => F k ∨ G k) ab (aac13 x) 40) := ⟨H4.out.1.later HS.out.1 (Below.refl _ _).drew, H4.out.2.later (Below.refl _ _).drew⟩
          clear H4
          generalize w3.drew = w4 at *
          refine' take_at (i := 0) (d := 58) (v := _) rfl rfl (by kernel_rfl) (by kernel_rfl) (by kernel_rfl) (fun _ _ _ h => h) (Or.inl ⟨by rfl, ?h0⟩) (H5.out.2.all) ?_
          case h0 =>
            intro w hSw
            obtain ⟨t0, t1, t2, t3⟩ := hSw
            go_simp
            with_reducible rfl
          simp only [List.setIfInBounds_toArray, List.set_cons_zero, List.set_cons_succ]
          refine' take_at (i := 1) (d := 59) (v := _) rfl rfl (by kernel_rfl) (by kernel_rfl) (by kernel_rfl) (fun _ _ _ h => h) (Or.inl ⟨by rfl, ?h1⟩) (H5.out.2.all) ?_
          case h1 =>
            intro w hSw
            obtain ⟨t0, t1, t2, t3⟩ := hSw
            go_simp
            with_reducible rfl
          simp only [List.setIfInBounds_toArray, List.set_cons_zero, List.set_cons_succ]
          refine' take_at (i := 2) (d := 60) (v := _) rfl rfl (by kernel_rfl) (by kernel_rfl) (by kernel_rfl) (fun _ _ _ h => h) (Or.inl ⟨by rfl, ?h2⟩) (H5.out.2.all) ?_
          case h2 =>
            intro w hSw
            obtain ⟨t0, t1, t2, t3⟩ := hSw
            go_simp
            with_reducible rfl
          simp only [List.setIfInBounds_toArray, List.set_cons_zero, List.set_cons_succ]
          refine' take_at (i := 4) (d := 62) (v := _) rfl rfl (by kernel_rfl) (by kernel_rfl) (by kernel_rfl) (fun _ _ _ h => h) (Or.inl ⟨by rfl, ?h4⟩) (H5.out.2.all) ?_
          case h4 =>
            intro w hSw
            obtain ⟨t0, t1, t2, t3⟩ := hSw
            go_simp
            with_reducible rfl
          simp only [List.setIfInBounds_toArray, List.set_cons_zero, List.set_cons_succ]
          refine' take_at (i := 5) (d := 63) (v := _) rfl rfl (by kernel_rfl) (by kernel_rfl) (by kernel_rfl) (fun _ _ _ h => h) (Or.inl ⟨by rfl, ?h5⟩) (H5.out.2.all) ?_
          case h5 =>
            intro w hSw
            obtain ⟨t0, t1, t2, t3⟩ := hSw
            go_simp
            with_reducible rfl
          simp only [List.setIfInBounds_toArray, List.set_cons_zero, List.set_cons_succ]
          refine' take_at (i := 6) (d := 64) (v := _) rfl rfl (by kernel_rfl) (by kernel_rfl) (by kernel_rfl) (fun _ _ _ h => h) (Or.inl ⟨by rfl, ?h6⟩) (H5.out.2.all) ?_
          case h6 =>
            intro w hSw
            obtain ⟨t0, t1, t2, t3⟩ := hSw
            go_simp
            with_reducible rfl
          simp only [List.setIfInBounds_toArray, List.set_cons_zero, List.set_cons_succ]
          refine wpAnyH_ready (rs := [3]) (by kernel_rfl) (by simp) ?_
          refine AllReadyH.cons (o := _) rfl (fun KQ hKQ => ?_) AllReadyH.nil
          go_simp
          obtain ⟨s6, hs6⟩ : ∃ s6, s6 = Hq.drop s x.sess := ⟨_, rfl⟩
          obtain ⟨z, hz⟩ : ∃ z, z = (s.l.length : Int) - (s6.l.length : Int) := ⟨_, rfl⟩
          have HZ : Hid (s6 = Hq.drop s x.sess ∧ z = (s.l.length : Int) - (s6.l.length : Int)) := ⟨hs6, hz⟩
          clear hs6 hz
          refine (H5.out.1.mine.drop HS.out.1 x.sess z s6 HZ.out.1.symm HZ.out.2.symm).mono ?_
          rintro e w5 ⟨F6, rfl, hM5, hv5⟩
          have H55 : Hid (Bo13 LW W w5 q r s6 s F6 G ∧ Kept13 w5 (fun k => F6 k ∨ G k) ab (aac13 x) 40) := ⟨H5.out.1.first hM5 hv5, H5.out.2.moved (hv5.orl G)⟩
          clear hM5 hv5 H5
          refine hKQ.out _ _ H55.out.2.all (fun _ => ?_)
          clear hKQ KQ
          refine wpAnyH_ready (rs := [7]) (by kernel_rfl) (by simp) ?_
          refine AllReadyH.cons (o := _) rfl (fun KQ hKQ => ?_) AllReadyH.nil
          go_simp
          have HRA : Hid (Calls Tryd.prog 17 #[dptr r, .int .i64 x.sess] w5 fun e w' => ∃ F', e = .returned (.int .i64 z) ∧ LRf w' r s6 F' ∧ Moved w5 w' G F') := by
            have h := refDrop_any13 r s G x.sess w5 H55.out.1.ref H55.out.1.fine
            rw [← HZ.out.1, ← HZ.out.2] at h
            exact h
          refine HRA.out.mono ?_
          rintro e w6 ⟨G6, rfl, hR6, hv6⟩
          have H6b : Hid (Bo13 LW W w6 q r s6 s6 F6 G6 ∧ Kept13 w6 (fun k => F6 k ∨ G6 k) ab (aac13 x) 40) := by
            have hf := H55.out.1.mine.fine
            exact ⟨H55.out.1.second HS.out.1 hR6 hf hv6, H55.out.2.moved (hv6.orr F6)⟩
          clear hR6 hv6 H55 HRA
          refine hKQ.out _ _ H6b.out.2.all (fun _ => ?_)
          clear hKQ KQ
          have hzz : (z == z) = true := by simp
          refine' take_at (i := 8) (d := 66) (v := _) rfl rfl (by kernel_rfl) (by kernel_rfl) (by kernel_rfl) (fun _ _ _ h => h) (Or.inl ⟨by rfl, ?h8⟩) (H6b.out.2.all) ?_
          case h8 =>
            intro w hSw
            clear hSw
            go_simp
            with_reducible rfl
          simp only [List.setIfInBounds_toArray, List.set_cons_zero, List.set_cons_succ]
          refine' take_at (i := 9) (d := 10) (v := _) rfl rfl (by kernel_rfl) (by kernel_rfl) (by kernel_rfl) (fun _ _ _ h => h) (Or.inl ⟨by rfl, ?h9⟩) (H6b.out.2.all) ?_
          case h9 =>
            intro w hSw
            clear hSw
            go_simp
            with_reducible rfl
          simp only [List.setIfInBounds_toArray, List.set_cons_zero, List.set_cons_succ]
          refine wpAnyH_done (by kernel_rfl) ?_ _
          have H6 : Hid (Bo13 LW W w6 q r s6 s6 F6 G6) := H6b.out.1
          clear H6b
          obtain ⟨v2, hv2, hG2⟩ := H6.out.ref
          obtain ⟨L, hL⟩ : ∃ L, L = s6.l.length := ⟨_, rfl⟩
          have hr2 := hv2.row
          rw [← hL] at hr2
          obtain ⟨a2, c2, e2, j1, j2⟩ := row_form hr2
          subst e2
          have HV2 : Hid (Rr13 w6 r s6 (.slice a2 L c2) ∧ L = s6.l.length) := ⟨hv2, hL⟩
          have hL1 : L ≤ 1000 := by rw [hL]; exact H6.out.fine.len
          clear hv2 hG2 hr2 j1 j2 hL
          go_upto_region 22 with fail
          refine wp_region_held_drew (S := fun w' => w'.cell? ⟨r, 1, none⟩ = some (.slice a2 L c2)) (by kernel_rfl) (HV2.out.1.blk.cell 1) (fun _ => ?_)
          have H7 : Hid (Bo13 LW W w6.drew q r s6 s6 F6 G6 ∧ Rr13 w6.drew r s6 (.slice a2 L c2)) := ⟨H6.out.later HS.out.1 (Below.refl _ _).drew, HV2.out.1.later (Below.refl _ _).drew⟩
          clear H6
          generalize w6.drew = w7 at *
          refine' take_at (i := 0) (d := 101) (v := _) rfl rfl (by kernel_rfl) (by kernel_rfl) (by kernel_rfl) (fun _ _ _ h => h) (Or.inl ⟨by rfl, ?h0⟩) (H7.out.2.blk.cell 1) ?_
          case h0 =>
            intro w hSw
            go_simp
            with_reducible rfl
          simp only [List.setIfInBounds_toArray, List.set_cons_zero, List.set_cons_succ]
          refine' take_at (i := 1) (d := 102) (v := _) rfl rfl (by kernel_rfl) (by kernel_rfl) (by kernel_rfl) (fun _ _ _ h => h) (Or.inl ⟨by rfl, ?h1⟩) (H7.out.2.blk.cell 1) ?_
          case h1 =>
            intro w hSw
            go_simp
            with_reducible rfl
          simp only [List.setIfInBounds_toArray, List.set_cons_zero, List.set_cons_succ]
          refine' take_at (i := 2) (d := 103) (v := _) rfl rfl (by kernel_rfl) (by kernel_rfl) (by kernel_rfl) (fun _ _ _ h => h) (Or.inl ⟨by rfl, ?h2⟩) (H7.out.2.blk.cell 1) ?_
          case h2 =>
            intro w hSw
            go_simp
            with_reducible rfl
          simp only [List.setIfInBounds_toArray, List.set_cons_zero, List.set_cons_succ]
          refine' take_at (i := 3) (d := 104) (v := _) rfl rfl (by kernel_rfl) (by kernel_rfl) (by kernel_rfl) (fun _ _ _ h => h) (Or.inl ⟨by rfl, ?h3⟩) (H7.out.2.blk.cell 1) ?_
          case h3 =>
            intro w hSw
            go_simp
            with_reducible rfl
          simp only [List.setIfInBounds_toArray, List.set_cons_zero, List.set_cons_succ]
          refine' take_at (i := 5) (d := 106) (v := _) rfl rfl (by kernel_rfl) (by kernel_rfl) (by kernel_rfl) (fun _ _ _ h => h) (Or.inl ⟨by rfl, ?h5⟩) (H7.out.2.blk.cell 1) ?_
          case h5 =>
            intro w hSw
            go_simp
            with_reducible rfl
          simp only [List.setIfInBounds_toArray, List.set_cons_zero, List.set_cons_succ]
          refine' take_at (i := 6) (d := 107) (v := _) rfl rfl (by kernel_rfl) (by kernel_rfl) (by kernel_rfl) (fun _ _ _ h => h) (Or.inl ⟨by rfl, ?h6⟩) (H7.out.2.blk.cell 1) ?_
          case h6 =>
            intro w hSw
            go_simp
            with_reducible rfl
          simp only [List.setIfInBounds_toArray, List.set_cons_zero, List.set_cons_succ]
          refine' take_at (i := 7) (d := 108) (v := _) rfl rfl (by kernel_rfl) (by kernel_rfl) (by kernel_rfl) (fun _ _ _ h => h) (Or.inl ⟨by rfl, ?h7⟩) (H7.out.2.blk.cell 1) ?_
          case h7 =>
            intro w hSw
            go_simp
            with_reducible rfl
          simp only [List.setIfInBounds_toArray, List.set_cons_zero, List.set_cons_succ]
          refine' take_at (i := 8) (d := 109) (v := _) rfl rfl (by kernel_rfl) (by kernel_rfl) (by kernel_rfl) (fun _ _ _ h => h) (Or.inl ⟨by rfl, ?h8⟩) (H7.out.2.blk.cell 1) ?_
          case h8 =>
            intro w hSw
            go_simp
            with_reducible rfl
          simp only [List.setIfInBounds_toArray, List.set_cons_zero, List.set_cons_succ]
          refine' take_at (i := 9) (d := 110) (v := _) rfl rfl (by kernel_rfl) (by kernel_rfl) (by kernel_rfl) (fun _ _ _ h => h) (Or.inl ⟨by rfl, ?h9⟩) (H7.out.2.blk.cell 1) ?_
          case h9 =>
            intro w hSw
            go_simp
            with_reducible rfl
          simp only [List.setIfInBounds_toArray, List.set_cons_zero, List.set_cons_succ]
          refine wpAnyH_ready (rs := [4]) (by kernel_rfl) (by simp) ?_
          refine AllReadyH.cons (o := _) rfl (fun KQ hKQ => ?_) AllReadyH.nil
          go_simp
          refine (H7.out.1.mine.len HS.out.1 L HV2.out.2.symm).mono ?_
          rintro e w8 ⟨rfl, hM8, hb8⟩
          have H8 : Hid (Bo13 LW W w8 q r s6 s6 F6 G6 ∧ Rr13 w8 r s6 (.slice a2 L c2)) := ⟨H7.out.1.later HS.out.1 hb8, H7.out.2.later hb8⟩
          clear hM8 hb8 H7
          refine hKQ.out _ _ (H8.out.2.blk.cell 1) (fun _ => ?_)
          clear hKQ KQ
          have hLL : ((L : Int) != (L : Int)) = false := by simp
          refine' take_at (i := 10) (d := 111) (v := _) rfl rfl (by kernel_rfl) (by kernel_rfl) (by kernel_rfl) (fun _ _ _ h => h) (Or.inl ⟨by rfl, ?h10⟩) (H8.out.2.blk.cell 1) ?_
          case h10 =>
            intro w hSw
            go_simp
            with_reducible rfl
          simp only [List.setIfInBounds_toArray, List.set_cons_zero, List.set_cons_succ]
          refine' take_at (i := 11) (d := 112) (v := _) rfl rfl (by kernel_rfl) (by kernel_rfl) (by kernel_rfl) (fun _ _ _ h => h) (Or.inl ⟨by rfl, ?h11⟩) (H8.out.2.blk.cell 1) ?_
          case h11 =>
            intro w hSw
            go_simp
            with_reducible rfl
          simp only [List.setIfInBounds_toArray, List.set_cons_zero, List.set_cons_succ]
          refine wpAnyH_done (by kernel_rfl) ?_ _
          go_wp2
          go_roundw
          case rel => exact ⟨k + 1, s6, F6, G6, by omega, by go_num, H8.out.1⟩
          case measure => simp [intOf]; omega
    · have hlt' : ¬ (k : Int) < (N : Int) := by omega
      go_wp2
      go_ret
      exact ⟨rfl, H3.out.mine.below⟩
end Go.Proofs.YtjejpkognjedpaaDoor
