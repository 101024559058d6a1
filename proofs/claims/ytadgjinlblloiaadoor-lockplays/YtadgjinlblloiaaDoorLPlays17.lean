/- LockPlays' walk: the landed Locks beside the document's own reckoning. -/
import Derived.Test.YtadgjinlblloiaaDoorRefT17
namespace Go.Proofs.YtadgjinlblloiaaDoor
open Go.RowKit

/-- Both Locks, apart from each other. -/
structure Bo17 (LS : Rep17) (W w : World) (q r m : Nat) (s t : Lk.St) (F G : Nat → Prop) : Prop where
  one : Mine17 LS W w q m s F
  two : Mine17 LRl W w r m t G
  off : ∀ k, F k → ¬ G k
/-- A block that lies apart from both. -/
structure Kp17 (w : World) (F G : Nat → Prop) (ab : Nat) (cs : List Value) : Prop where
  cb : Cb w ab cs 39
  offF : ¬ F ab
  offG : ¬ G ab
section
variable {LS : Rep17} {W w w' : World} {q r m m' : Nat} {s t s' t' : Lk.St} {F G F' G' : Nat → Prop} {ab : Nat} {cs : List Value}
theorem Bo17.later (S : Specs17 LS) (h : Bo17 LS W w q r m s t F G) (hb : Below w.heap.size w w') : Bo17 LS W w' q r m s t F G :=
  ⟨h.one.later S hb, h.two.step (LRl.keep h.two.ld fun k hk => hb.block k (LRl.lt h.two.ld hk)) h.two.fine (Moved.of_below G hb), h.off⟩
theorem Bo17.first (h : Bo17 LS W w q r m s t F G) (h1 : Mine17 LS W w' q m' s' F') (hv : Moved w w' F F') (hm : m ≤ m') : Bo17 LS W w' q r m' s' t F' G :=
  ⟨h1, ⟨LRl.keep h.two.ld fun k hk => hv.block k (LRl.lt h.two.ld hk) (fun e => h.off k e hk), h.two.fine.mono hm, h.two.hi, h1.below⟩, fun k hk e => (hv.sub k hk).elim (fun e2 => h.off k e2 e) (fun e2 => by have := LRl.lt h.two.ld e; omega)⟩
theorem Bo17.second (S : Specs17 LS) (h : Bo17 LS W w q r m s t F G) (h2 : Mine17 LRl W w' r m t' G') (hv : Moved w w' G G') : Bo17 LS W w' q r m s t' F G' :=
  ⟨⟨S.keep h.one.ld fun k hk => hv.block k (S.lt h.one.ld hk) (h.off k hk), h.one.fine, h.one.hi, h2.below⟩, h2, fun k hk e => (hv.sub k e).elim (h.off k hk) (fun e2 => by have := S.lt h.one.ld hk; omega)⟩
theorem Kp17.later (h : Kp17 w F G ab cs) (hb : Below w.heap.size w w') : Kp17 w' F G ab cs := ⟨h.cb.below hb, h.offF, h.offG⟩
theorem Kp17.first (h : Kp17 w F G ab cs) (hv : Moved w w' F F') : Kp17 w' F' G ab cs := ⟨h.cb.keep (hv.block ab h.cb.lt h.offF), fun e => (hv.sub ab e).elim h.offF (fun e2 => by have := h.cb.lt; omega), h.offG⟩
theorem Kp17.second (h : Kp17 w F G ab cs) (hv : Moved w w' G G') : Kp17 w' F G' ab cs := ⟨h.cb.keep (hv.block ab h.cb.lt h.offG), h.offF, fun e => (hv.sub ab e).elim h.offG (fun e2 => by have := h.cb.lt; omega)⟩
theorem mineR_take17 (h : Mine17 LRl W w r m t G) (h0 : Lk.Fine m' t) (hm : m' ≤ 900) (hm2 : m' + 10 ≤ m) (who : Int) (hw : I64 who) (v : Value) (ps : List ByteArray) (hv : Ss w v ps) (hl : ps.length ≤ 10) (hp : ∀ p ∈ ps, p.size ≤ maxLen) (hoff : ∀ k, v.ownBlock = some k → ps ≠ [] → ¬ G k) (a : ByteArray) (b : Bool) (t' : Lk.St) (he : Lk.take t who ps = (a, b, t')) :
    Calls Tryd.prog 15 #[dptr r, .int .i64 who, v] w fun e w' => ∃ G', e = .returned (.tuple #[.string a, .bool b]) ∧ Mine17 LRl W w' r m t' G' ∧ Moved w w' G G' := by
  refine (refTake_any17 r t G m' who v ps w h.ld h0 hm hw hv hl hp hoff).mono ?_
  have hf := (h0.take hw ps).mono (show m' + ps.length ≤ m by omega)
  unfold TakeP
  rw [he] at hf ⊢
  rintro e w' ⟨G', rfl, hl, hv⟩
  exact ⟨G', rfl, h.step hl hf hv, hv⟩
theorem mineR_free17 (h : Mine17 LRl W w r m t G) (hm : m ≤ 1000) (who : Int) (z : Int) (t' : Lk.St) (hz : Lk.free t who = z) (he : Lk.rest t who = t') :
    Calls Tryd.prog 16 #[dptr r, .int .i64 who] w fun e w' => ∃ G', e = .returned (.int .i64 z) ∧ Mine17 LRl W w' r m t' G' ∧ Moved w w' G G' := by
  refine (refFree_any17 r t G m who w h.ld h.fine hm).mono ?_
  have hf := h.fine.rest who
  unfold FreeP
  rw [he] at hf ⊢
  rw [hz]
  rintro e w' ⟨G', rfl, hl, hv⟩
  exact ⟨G', rfl, h.step hl hf hv, hv⟩
end
set_option maxRecDepth 100000 in
set_option maxHeartbeats 16000000 in
theorem plays_any17 {LS : Rep17} (S : Specs17 LS) (v : Value) (xs : List Lk.Ac) (p : ByteArray) (W : World) (hS : Pa.Std W) (hv : Acl17 W v xs) (hl : xs.length ≤ maxLen) (hok : ∀ x ∈ xs, AcOk17 x) (hp : p.size ≤ maxLen) :
    Calls Tryd.prog 4 #[v, .string p] W fun e w' => e = .returned (.bool true) ∧ Below W.heap.size W w' := by
  have HS : Hid (Specs17 LS ∧ Pa.Std W ∧ (∀ x ∈ xs, AcOk17 x)) := ⟨S, hS, hok⟩
  obtain ⟨av, N, c, rfl, hN, hj⟩ := hv
  have HV : Hid (Acl17 W (.slice av N c) xs ∧ N = xs.length) := ⟨⟨av, N, c, rfl, hN, hj⟩, hN⟩
  have hN63 : N ≤ 9223372036854775807 := by unfold maxLen at hl; omega
  have HPZ : Hid (p.size ≤ maxLen) := hp
  unfold maxLen at hp
  clear S hS hok hl hN hj
  go_enter Tryd.func4, Tryd.ntmps4
  go_wp2_with fail
  refine (awake_any17 HS.out.1 W HS.out.2.1).mono ?_
  rintro e w0 ⟨rfl, hb0⟩
  have H0 : Hid (Below W.heap.size W w0) := hb0
  clear hb0
  by_cases a1 : (50 : Int) < (N : Int)
  · go_wp2
    go_ret
    exact ⟨rfl, H0.out⟩
  by_cases a2 : (300 : Int) < (p.size : Int)
  · go_wp2
    go_ret
    exact ⟨rfl, H0.out⟩
  have HA : Hid (N ≤ 50) := (show N ≤ 50 by omega)
  go_wp2_with fail
  refine (mine17_new HS.out.1 H0.out).mono ?_
  rintro e w1 ⟨q, F1, rfl, hM, hF, hb⟩
  have M1 : Hid (Mine17 LS W w1 q 0 [] F1) := hM
  clear hM hF hb H0 a1 a2
  obtain ⟨r, hrr⟩ : ∃ z, z = w1.heap.size := ⟨_, rfl⟩
  have B1 : Hid (Bo17 LS W (w1.alloc (.cells #[.slice none 0 0] 36)) q r 0 [] [] F1 (Fl17 (.slice none 0 0) r)) := by
    have hb := (Below.refl _ w1).alloc (Nat.le_refl _) (.cells #[.slice none 0 0] 36)
    have hs := M1.out.below.size
    rw [hrr]
    refine ⟨M1.out.later HS.out.1 hb, ⟨⟨_, ⟨Cb.made w1 [.slice none 0 0] _, World.ownsRow_nil _ _ _ _⟩, rfl⟩, M1.out.fine, fun k hk => ?_, M1.out.below.trans (hb.mono hs)⟩, fun k hk e => ?_⟩
    · rcases hk with hk | rfl
      · cases hk
      · exact hs
    · have h1 := HS.out.1.lt M1.out.ld hk
      rcases e with e | e
      · cases e
      · omega
  go_upto_region 6 with fail
  rw [← hrr]
  clear hrr M1
  generalize (w1.alloc (.cells #[.slice none 0 0] 36)) = w2 at *
  go_wp2
  go_loopw [7] (fun i wx => ∃ (k : Nat) (s : Lk.St) (F G : Nat → Prop), k ≤ N ∧ i = .int .i64 (k : Int) ∧ Bo17 LS W wx q r (10 * k) s s F G) (fun i _ => N - (intOf i).toNat)
  case atStart => exact ⟨0, [], F1, _, Nat.zero_le _, rfl, B1.out⟩
  case round =>
    obtain ⟨k, s, F, G, hk, rfl, hB⟩ := hrel
    have H3 : Hid (Bo17 LS W wr q r (10 * k) s s F G) := hB
    clear hB B1
    by_cases hlt : k < N
    · have hlt' : (k : Int) < (N : Int) := by omega
      have hk0 : (0 : Int) ≤ (k : Int) := by omega
      have hwk : IntKind.wrap .i64 ((k : Int) + 1) = (k : Int) + 1 := by rw [IntKind.wrap_i64]; omega
      obtain ⟨x, hx⟩ : ∃ x, xs[k]? = some x := ⟨xs[k]'(by rw [← HV.out.2]; exact hlt), List.getElem?_eq_getElem _⟩
      obtain ⟨g, o, b, L, cc, rfl, hL, hss, hcl⟩ := HV.out.1.at hx
      have HX : Hid (AcOk17 x ∧ L = x.ps.length ∧ Ss W (.slice b L cc) x.ps) := ⟨HS.out.2.2 x (List.mem_of_getElem? hx), hL, hss.1⟩
      obtain ⟨c0, c1, c2⟩ := hcl wr H3.out.one.below
      have hL63 : L ≤ 9223372036854775807 := by have h1 := HX.out.1.len; unfold maxLen at h1; omega
      clear hx hL hss hcl
      obtain ⟨ab, hab⟩ : ∃ z, z = wr.heap.size := ⟨_, rfl⟩
      have H4 : Hid (Bo17 LS W (wr.alloc (.cells #[.int .i64 x.op, .int .i64 x.who, .slice b L cc] 39)) q r (10 * k) s s F G ∧ Kp17 (wr.alloc (.cells #[.int .i64 x.op, .int .i64 x.who, .slice b L cc] 39)) F G ab (aac17 x (.slice b L cc))) := by
        have hb := (Below.refl _ wr).alloc (Nat.le_refl _) (.cells #[.int .i64 x.op, .int .i64 x.who, .slice b L cc] 39)
        rw [hab]
        exact ⟨H3.out.later HS.out.1 hb, Cb.made wr (aac17 x (.slice b L cc)) _, fun e => by have := HS.out.1.lt H3.out.one.ld e; omega, fun e => by have := LRl.lt H3.out.two.ld e; omega⟩
      go_upto_region 10 with fail
      rw [← hab]
      clear hab c0 c1 c2 H3
      generalize (wr.alloc (.cells #[.int .i64 x.op, .int .i64 x.who, .slice b L cc] 39)) = w3 at *
      have d2 : w3.cell? ⟨ab, 2, none⟩ = some (.slice b L cc) := H4.out.2.cb.cell 2
      by_cases ax : (8 : Int) < (L : Int)
      · go_wp2
        go_ret
        exact ⟨rfl, H4.out.1.one.below⟩
      have HLL : Hid (x.ps.length ≤ 10 ∧ 10 * k ≤ 900) := ⟨by have := HX.out.2.1; omega, by have := HA.out; omega⟩
      have HKM : Hid (10 * (k + 1) ≤ 1000) := (show 10 * (k + 1) ≤ 1000 by have := HLL.out.2; omega)
      go_wp2
      clear d2 ax
      go_loopw [9] (fun i wx => ∃ j : Nat, j ≤ L ∧ i = .int .i64 (j : Int) ∧ Bo17 LS W wx q r (10 * k) s s F G ∧ Kp17 wx F G ab (aac17 x (.slice b L cc))) (fun i _ => L - (intOf i).toNat)
      case atStart => exact ⟨0, Nat.zero_le _, rfl, H4.out.1, H4.out.2⟩
      case round =>
        obtain ⟨j, hj, rfl, hB, hK⟩ := hrel
        have H5 : Hid (Bo17 LS W wr q r (10 * k) s s F G ∧ Kp17 wr F G ab (aac17 x (.slice b L cc))) := ⟨hB, hK⟩
        clear hB hK H4
        have d2 : wr.cell? ⟨ab, 2, none⟩ = some (.slice b L cc) := H5.out.2.cb.cell 2
        by_cases hlj : j < L
        · have hlj' : (j : Int) < (L : Int) := by omega
          have hj0 : (0 : Int) ≤ (j : Int) := by omega
          have hwj : IntKind.wrap .i64 ((j : Int) + 1) = (j : Int) + 1 := by rw [IntKind.wrap_i64]; omega
          obtain ⟨y, hy⟩ : ∃ y, x.ps[j]? = some y := ⟨x.ps[j]'(by rw [← HX.out.2.1]; exact hlj), List.getElem?_eq_getElem _⟩
          obtain ⟨g5, o5, rfl, hcl⟩ := HX.out.2.2.at17 hy
          have c5 := hcl wr H5.out.1.one.below
          have hys : y.size ≤ 9223372036854775807 := HX.out.1.ps y (List.mem_of_getElem? hy)
          clear hy hcl
          by_cases ay : (300 : Int) < (y.size : Int)
          · go_wp2
            go_ret
            exact ⟨rfl, H5.out.1.one.below⟩
          go_wp2
          go_roundw
          case rel => exact ⟨j + 1, by omega, by go_num, H5.out.1, H5.out.2⟩
          case measure => simp [intOf]; omega
        · have hlj' : ¬ (j : Int) < (L : Int) := by omega
          have d0 : wr.cell? ⟨ab, 0, none⟩ = some (.int .i64 x.op) := H5.out.2.cb.cell 0
          have d1 : wr.cell? ⟨ab, 1, none⟩ = some (.int .i64 x.who) := H5.out.2.cb.cell 1
          by_cases ho : x.op = 0
          · have hob : (x.op == 0) = true := by simp [ho]
            clear ho
            obtain ⟨ta, tb, s6, hz⟩ : ∃ ta tb s6, Lk.take s x.who x.ps = (ta, tb, s6) := ⟨_, _, _, rfl⟩
            have HT : Hid (Lk.take s x.who x.ps = (ta, tb, s6)) := hz
            clear hz
            go_wp2_with fail
            refine (H5.out.1.one.take HS.out.1 HS.out.2.1 (by have := HLL.out.2; omega) x.who HX.out.1.who _ x.ps (HX.out.2.2.below H5.out.1.one.below) HLL.out.1 HX.out.1.ps (fun i hi hne e => by have := HX.out.2.2.lt17 i hi hne; have := H5.out.1.one.hi i e; omega) ta tb s6 HT.out).mono ?_
            rintro e w5 ⟨F6, rfl, hM, hmv⟩
            have H6 : Hid ((Bo17 LS W w5 q r (10 * (k + 1)) s6 s F6 G ∧ Kp17 w5 F6 G ab (aac17 x (.slice b L cc))) ∧ Lk.Fine (10 * k) s) := ⟨⟨H5.out.1.first hM hmv (by omega), H5.out.2.first hmv⟩, H5.out.1.two.fine⟩
            clear hM hmv H5 d0 d1 d2
            have d1 : w5.cell? ⟨ab, 1, none⟩ = some (.int .i64 x.who) := H6.out.1.2.cb.cell 1
            have d2 : w5.cell? ⟨ab, 2, none⟩ = some (.slice b L cc) := H6.out.1.2.cb.cell 2
            go_wp2_with fail
            refine (mineR_take17 H6.out.1.1.two H6.out.2 HLL.out.2 (by omega) x.who HX.out.1.who _ x.ps (HX.out.2.2.below H6.out.1.1.one.below) HLL.out.1 HX.out.1.ps (fun i hi hne e => by have := HX.out.2.2.lt17 i hi hne; have := H6.out.1.1.two.hi i e; omega) ta tb s6 HT.out).mono ?_
            rintro e w6 ⟨G6, rfl, hM, hmv⟩
            have J : Hid (Bo17 LS W w6 q r (10 * (k + 1)) s6 s6 F6 G6 ∧ Kp17 w6 F6 G6 ab (aac17 x (.slice b L cc))) := ⟨H6.out.1.1.second HS.out.1 hM hmv, H6.out.1.2.second hmv⟩
            have y1 : (ta.toList != ta.toList) = false := by simp
            have y2 : (tb != tb) = false := by simp
            clear hM hmv H6 d1 d2
            obtain ⟨zh, hzh⟩ : ∃ z, z = (Lk.held s6 p).getD 0 := ⟨_, rfl⟩
            obtain ⟨bh, hbh⟩ : ∃ z, z = (Lk.held s6 p).isSome := ⟨_, rfl⟩
            obtain ⟨ln, hln⟩ : ∃ z : Int, z = (s6.length : Int) := ⟨_, rfl⟩
            obtain ⟨k1, hk1⟩ : ∃ z, z = Lk.blocks s6 x.who p := ⟨_, rfl⟩
            obtain ⟨k2, hk2⟩ : ∃ z, z = Lk.blocks s6 0 p := ⟨_, rfl⟩
            have HZ : Hid (zh = (Lk.held s6 p).getD 0 ∧ bh = (Lk.held s6 p).isSome ∧ (s6.length : Int) = ln ∧ Lk.blocks s6 x.who p = k1 ∧ Lk.blocks s6 0 p = k2) := ⟨hzh, hbh, hln.symm, hk1.symm, hk2.symm⟩
            have z1 : (zh != zh) = false := by simp
            have z2 : (bh != bh) = false := by simp
            have z3 : (ln != ln) = false := by simp
            have z4 : (k1 != k1) = false := by simp
            have z5 : (k2 != k2) = false := by simp
            clear hzh hbh hln hk1 hk2
            go_wp2_with fail
            refine (J.out.1.one.held HS.out.1 HKM.out p HPZ.out _ rfl).mono ?_
            rintro e s1 ⟨rfl, hM, hb⟩
            clear hM
            rw [← HZ.out.1, ← HZ.out.2.1]
            have J1 : Hid (Bo17 LS W s1 q r (10 * (k + 1)) s6 s6 F6 G6 ∧ Kp17 s1 F6 G6 ab (aac17 x (.slice b L cc))) := ⟨J.out.1.later HS.out.1 hb, J.out.2.later hb⟩
            clear hb J
            go_wp2_with fail
            refine (refHeld_any17 r s6 G6 _ p s1 J1.out.1.two.ld J1.out.1.two.fine HKM.out).mono ?_
            rintro e s2 ⟨rfl, hb⟩
            rw [← HZ.out.1, ← HZ.out.2.1]
            have J2 : Hid (Bo17 LS W s2 q r (10 * (k + 1)) s6 s6 F6 G6 ∧ Kp17 s2 F6 G6 ab (aac17 x (.slice b L cc))) := ⟨J1.out.1.later HS.out.1 hb, J1.out.2.later hb⟩
            clear hb J1
            go_upto_region 26 with fail
            refine wp_region_held_drew (S := fun w' => w'.cell? ⟨ab, 1, none⟩ = some (.int .i64 x.who)) (by kernel_rfl) (J2.out.2.cb.cell 1) (fun _ => ?_)
            have J3 : Hid (Bo17 LS W s2.drew q r (10 * (k + 1)) s6 s6 F6 G6 ∧ Kp17 s2.drew F6 G6 ab (aac17 x (.slice b L cc))) := ⟨J2.out.1.later HS.out.1 (Below.refl _ _).drew, J2.out.2.later (Below.refl _ _).drew⟩
            clear J2
            generalize s2.drew = s3 at *
            refine' take_at (i := 0) (d := 114) (v := _) rfl rfl (by kernel_rfl) (by kernel_rfl) (by kernel_rfl) (fun _ _ _ h => h) (Or.inl ⟨by rfl, ?h0⟩) (J3.out.2.cb.cell 1) ?_
            case h0 =>
              intro w hSw
              clear hSw
              go_simp
              with_reducible rfl
            simp only [List.setIfInBounds_toArray, List.set_cons_zero, List.set_cons_succ]
            refine' take_at (i := 1) (d := 115) (v := _) rfl rfl (by kernel_rfl) (by kernel_rfl) (by kernel_rfl) (fun _ _ _ h => h) (Or.inl ⟨by rfl, ?h1⟩) (J3.out.2.cb.cell 1) ?_
            case h1 =>
              intro w hSw
              clear hSw
              go_simp
              with_reducible rfl
            simp only [List.setIfInBounds_toArray, List.set_cons_zero, List.set_cons_succ]
            refine' take_at (i := 2) (d := 116) (v := _) rfl rfl (by kernel_rfl) (by kernel_rfl) (by kernel_rfl) (fun _ _ _ h => h) (Or.inl ⟨by rfl, ?h2⟩) (J3.out.2.cb.cell 1) ?_
            case h2 =>
              intro w hSw
              clear hSw
              go_simp
              with_reducible rfl
            simp only [List.setIfInBounds_toArray, List.set_cons_zero, List.set_cons_succ]
            refine' take_at (i := 3) (d := 117) (v := _) rfl rfl (by kernel_rfl) (by kernel_rfl) (by kernel_rfl) (fun _ _ _ h => h) (Or.inl ⟨by rfl, ?h3⟩) (J3.out.2.cb.cell 1) ?_
            case h3 =>
              intro w hSw
              clear hSw
              go_simp
              with_reducible rfl
            simp only [List.setIfInBounds_toArray, List.set_cons_zero, List.set_cons_succ]
            refine' take_at (i := 4) (d := 118) (v := _) rfl rfl (by kernel_rfl) (by kernel_rfl) (by kernel_rfl) (fun _ _ _ h => h) (Or.inl ⟨by rfl, ?h4⟩) (J3.out.2.cb.cell 1) ?_
            case h4 =>
              intro w hSw
              clear hSw
              go_simp
              with_reducible rfl
            simp only [List.setIfInBounds_toArray, List.set_cons_zero, List.set_cons_succ]
            refine' take_at (i := 5) (d := 119) (v := _) rfl rfl (by kernel_rfl) (by kernel_rfl) (by kernel_rfl) (fun _ _ _ h => h) (Or.inl ⟨by rfl, ?h5⟩) (J3.out.2.cb.cell 1) ?_
            case h5 =>
              intro w hSw
              clear hSw
              go_simp
              with_reducible rfl
            simp only [List.setIfInBounds_toArray, List.set_cons_zero, List.set_cons_succ]
            refine' take_at (i := 6) (d := 120) (v := _) rfl rfl (by kernel_rfl) (by kernel_rfl) (by kernel_rfl) (fun _ _ _ h => h) (Or.inl ⟨by rfl, ?h6⟩) (J3.out.2.cb.cell 1) ?_
            case h6 =>
              intro w hSw
              clear hSw
              go_simp
              with_reducible rfl
            simp only [List.setIfInBounds_toArray, List.set_cons_zero, List.set_cons_succ]
            refine' take_at (i := 7) (d := 121) (v := _) rfl rfl (by kernel_rfl) (by kernel_rfl) (by kernel_rfl) (fun _ _ _ h => h) (Or.inl ⟨by rfl, ?h7⟩) (J3.out.2.cb.cell 1) ?_
            case h7 =>
              intro w hSw
              clear hSw
              go_simp
              with_reducible rfl
            simp only [List.setIfInBounds_toArray, List.set_cons_zero, List.set_cons_succ]
            refine' take_at (i := 8) (d := 122) (v := _) rfl rfl (by kernel_rfl) (by kernel_rfl) (by kernel_rfl) (fun _ _ _ h => h) (Or.inl ⟨by rfl, ?h8⟩) (J3.out.2.cb.cell 1) ?_
            case h8 =>
              intro w hSw
              clear hSw
              go_simp
              with_reducible rfl
            simp only [List.setIfInBounds_toArray, List.set_cons_zero, List.set_cons_succ]
            refine' take_at (i := 9) (d := 123) (v := _) rfl rfl (by kernel_rfl) (by kernel_rfl) (by kernel_rfl) (fun _ _ _ h => h) (Or.inl ⟨by rfl, ?h9⟩) (J3.out.2.cb.cell 1) ?_
            case h9 =>
              intro w hSw
              clear hSw
              go_simp
              with_reducible rfl
            simp only [List.setIfInBounds_toArray, List.set_cons_zero, List.set_cons_succ]
            refine' take_at (i := 11) (d := 125) (v := _) rfl rfl (by kernel_rfl) (by kernel_rfl) (by kernel_rfl) (fun _ _ _ h => h) (Or.inl ⟨by rfl, ?h11⟩) (J3.out.2.cb.cell 1) ?_
            case h11 =>
              intro w hSw
              clear hSw
              go_simp
              with_reducible rfl
            simp only [List.setIfInBounds_toArray, List.set_cons_zero, List.set_cons_succ]
            refine wpAnyH_ready (rs := [10]) (by kernel_rfl) (by simp) ?_
            refine AllReadyH.cons (o := _) rfl (fun KQ hKQ => ?_) AllReadyH.nil
            go_simp
            refine (J3.out.1.one.len HS.out.1 HKM.out ln HZ.out.2.2.1).mono ?_
            rintro e s4 ⟨rfl, hM, hb⟩
            clear hM
            have J4 : Hid (Bo17 LS W s4 q r (10 * (k + 1)) s6 s6 F6 G6 ∧ Kp17 s4 F6 G6 ab (aac17 x (.slice b L cc))) := ⟨J3.out.1.later HS.out.1 hb, J3.out.2.later hb⟩
            clear hb J3
            refine hKQ.out _ _ (J4.out.2.cb.cell 1) (fun _ => ?_)
            clear hKQ KQ
            refine wpAnyH_ready (rs := [12]) (by kernel_rfl) (by simp) ?_
            refine AllReadyH.cons (o := _) rfl (fun KQ hKQ => ?_) AllReadyH.nil
            go_simp
            refine (refLen_any17 r s6 G6 s4 J4.out.1.two.ld).mono ?_
            rintro e s5 ⟨rfl, hb⟩
            rw [HZ.out.2.2.1]
            have J5 : Hid (Bo17 LS W s5 q r (10 * (k + 1)) s6 s6 F6 G6 ∧ Kp17 s5 F6 G6 ab (aac17 x (.slice b L cc))) := ⟨J4.out.1.later HS.out.1 hb, J4.out.2.later hb⟩
            clear hb J4
            refine hKQ.out _ _ (J5.out.2.cb.cell 1) (fun _ => ?_)
            clear hKQ KQ
            refine' take_at (i := 13) (d := 127) (v := _) rfl rfl (by kernel_rfl) (by kernel_rfl) (by kernel_rfl) (fun _ _ _ h => h) (Or.inl ⟨by rfl, ?h13⟩) (J5.out.2.cb.cell 1) ?_
            case h13 =>
              intro w hSw
              go_simp
              with_reducible rfl
            simp only [List.setIfInBounds_toArray, List.set_cons_zero, List.set_cons_succ]
            refine' take_at (i := 14) (d := 128) (v := _) rfl rfl (by kernel_rfl) (by kernel_rfl) (by kernel_rfl) (fun _ _ _ h => h) (Or.inl ⟨by rfl, ?h14⟩) (J5.out.2.cb.cell 1) ?_
            case h14 =>
              intro w hSw
              go_simp
              with_reducible rfl
            simp only [List.setIfInBounds_toArray, List.set_cons_zero, List.set_cons_succ]
            refine' take_at (i := 15) (d := 129) (v := _) rfl rfl (by kernel_rfl) (by kernel_rfl) (by kernel_rfl) (fun _ _ _ h => h) (Or.inl ⟨by rfl, ?h15⟩) (J5.out.2.cb.cell 1) ?_
            case h15 =>
              intro w hSw
              go_simp
              with_reducible rfl
            simp only [List.setIfInBounds_toArray, List.set_cons_zero, List.set_cons_succ]
            refine' take_at (i := 16) (d := 130) (v := _) rfl rfl (by kernel_rfl) (by kernel_rfl) (by kernel_rfl) (fun _ _ _ h => h) (Or.inl ⟨by rfl, ?h16⟩) (J5.out.2.cb.cell 1) ?_
            case h16 =>
              intro w hSw
              go_simp
              with_reducible rfl
            simp only [List.setIfInBounds_toArray, List.set_cons_zero, List.set_cons_succ]
            refine' take_at (i := 17) (d := 131) (v := _) rfl rfl (by kernel_rfl) (by kernel_rfl) (by kernel_rfl) (fun _ _ _ h => h) (Or.inl ⟨by rfl, ?h17⟩) (J5.out.2.cb.cell 1) ?_
            case h17 =>
              intro w hSw
              go_simp
              with_reducible rfl
            simp only [List.setIfInBounds_toArray, List.set_cons_zero, List.set_cons_succ]
            refine' take_at (i := 18) (d := 132) (v := _) rfl rfl (by kernel_rfl) (by kernel_rfl) (by kernel_rfl) (fun _ _ _ h => h) (Or.inl ⟨by rfl, ?h18⟩) (J5.out.2.cb.cell 1) ?_
            case h18 =>
              intro w hSw
              go_simp
              with_reducible rfl
            simp only [List.setIfInBounds_toArray, List.set_cons_zero, List.set_cons_succ]
            refine' take_at (i := 19) (d := 133) (v := _) rfl rfl (by kernel_rfl) (by kernel_rfl) (by kernel_rfl) (fun _ _ _ h => h) (Or.inl ⟨by rfl, ?h19⟩) (J5.out.2.cb.cell 1) ?_
            case h19 =>
              intro w hSw
              go_simp
              with_reducible rfl
            simp only [List.setIfInBounds_toArray, List.set_cons_zero, List.set_cons_succ]
            refine' take_at (i := 21) (d := 135) (v := _) rfl rfl (by kernel_rfl) (by kernel_rfl) (by kernel_rfl) (fun _ _ _ h => h) (Or.inl ⟨by rfl, ?h21⟩) (J5.out.2.cb.cell 1) ?_
            case h21 =>
              intro w hSw
              go_simp
              with_reducible rfl
            simp only [List.setIfInBounds_toArray, List.set_cons_zero, List.set_cons_succ]
            refine' take_at (i := 22) (d := 136) (v := _) rfl rfl (by kernel_rfl) (by kernel_rfl) (by kernel_rfl) (fun _ _ _ h => h) (Or.inl ⟨by rfl, ?h22⟩) (J5.out.2.cb.cell 1) ?_
            case h22 =>
              intro w hSw
              go_simp
              with_reducible rfl
            simp only [List.setIfInBounds_toArray, List.set_cons_zero, List.set_cons_succ]
            refine' take_at (i := 23) (d := 137) (v := _) rfl rfl (by kernel_rfl) (by kernel_rfl) (by kernel_rfl) (fun _ _ _ h => h) (Or.inl ⟨by rfl, ?h23⟩) (J5.out.2.cb.cell 1) ?_
            case h23 =>
              intro w hSw
              go_simp
              with_reducible rfl
            simp only [List.setIfInBounds_toArray, List.set_cons_zero, List.set_cons_succ]
            refine' take_at (i := 24) (d := 138) (v := _) rfl rfl (by kernel_rfl) (by kernel_rfl) (by kernel_rfl) (fun _ _ _ h => h) (Or.inl ⟨by rfl, ?h24⟩) (J5.out.2.cb.cell 1) ?_
            case h24 =>
              intro w hSw
              go_simp
              with_reducible rfl
            simp only [List.setIfInBounds_toArray, List.set_cons_zero, List.set_cons_succ]
            refine wpAnyH_ready (rs := [20]) (by kernel_rfl) (by simp) ?_
            refine AllReadyH.cons (o := _) rfl (fun KQ hKQ => ?_) AllReadyH.nil
            go_simp
            refine (J5.out.1.one.blocks HS.out.1 HS.out.2.1 HKM.out x.who HX.out.1.who p HPZ.out k1 HZ.out.2.2.2.1).mono ?_
            rintro e s7 ⟨rfl, hM, hb⟩
            clear hM
            have J7 : Hid (Bo17 LS W s7 q r (10 * (k + 1)) s6 s6 F6 G6 ∧ Kp17 s7 F6 G6 ab (aac17 x (.slice b L cc))) := ⟨J5.out.1.later HS.out.1 hb, J5.out.2.later hb⟩
            clear hb J5
            refine hKQ.out _ _ (J7.out.2.cb.cell 1) (fun _ => ?_)
            clear hKQ KQ
            refine wpAnyH_ready (rs := [25]) (by kernel_rfl) (by simp) ?_
            refine AllReadyH.cons (o := _) rfl (fun KQ hKQ => ?_) AllReadyH.nil
            go_simp
            refine (refBlocks_any17 r s6 G6 _ x.who p s7 J7.out.1.two.ld J7.out.1.two.fine HKM.out HPZ.out).mono ?_
            rintro e s8 ⟨rfl, hb⟩
            rw [HZ.out.2.2.2.1]
            have J8 : Hid (Bo17 LS W s8 q r (10 * (k + 1)) s6 s6 F6 G6 ∧ Kp17 s8 F6 G6 ab (aac17 x (.slice b L cc))) := ⟨J7.out.1.later HS.out.1 hb, J7.out.2.later hb⟩
            clear hb J7
            refine hKQ.out _ _ (J8.out.2.cb.cell 1) (fun _ => ?_)
            clear hKQ KQ
            refine' take_at (i := 26) (d := 140) (v := _) rfl rfl (by kernel_rfl) (by kernel_rfl) (by kernel_rfl) (fun _ _ _ h => h) (Or.inl ⟨by rfl, ?h26⟩) (J8.out.2.cb.cell 1) ?_
            case h26 =>
              intro w hSw
              clear hSw
              go_simp
              with_reducible rfl
            simp only [List.setIfInBounds_toArray, List.set_cons_zero, List.set_cons_succ]
            refine' take_at (i := 27) (d := 141) (v := _) rfl rfl (by kernel_rfl) (by kernel_rfl) (by kernel_rfl) (fun _ _ _ h => h) (Or.inl ⟨by rfl, ?h27⟩) (J8.out.2.cb.cell 1) ?_
            case h27 =>
              intro w hSw
              clear hSw
              go_simp
              with_reducible rfl
            simp only [List.setIfInBounds_toArray, List.set_cons_zero, List.set_cons_succ]
            refine' take_at (i := 28) (d := 142) (v := _) rfl rfl (by kernel_rfl) (by kernel_rfl) (by kernel_rfl) (fun _ _ _ h => h) (Or.inl ⟨by rfl, ?h28⟩) (J8.out.2.cb.cell 1) ?_
            case h28 =>
              intro w hSw
              clear hSw
              go_simp
              with_reducible rfl
            simp only [List.setIfInBounds_toArray, List.set_cons_zero, List.set_cons_succ]
            refine' take_at (i := 29) (d := 143) (v := _) rfl rfl (by kernel_rfl) (by kernel_rfl) (by kernel_rfl) (fun _ _ _ h => h) (Or.inl ⟨by rfl, ?h29⟩) (J8.out.2.cb.cell 1) ?_
            case h29 =>
              intro w hSw
              clear hSw
              go_simp
              with_reducible rfl
            simp only [List.setIfInBounds_toArray, List.set_cons_zero, List.set_cons_succ]
            refine' take_at (i := 30) (d := 144) (v := _) rfl rfl (by kernel_rfl) (by kernel_rfl) (by kernel_rfl) (fun _ _ _ h => h) (Or.inl ⟨by rfl, ?h30⟩) (J8.out.2.cb.cell 1) ?_
            case h30 =>
              intro w hSw
              clear hSw
              go_simp
              with_reducible rfl
            simp only [List.setIfInBounds_toArray, List.set_cons_zero, List.set_cons_succ]
            refine' take_at (i := 32) (d := 146) (v := _) rfl rfl (by kernel_rfl) (by kernel_rfl) (by kernel_rfl) (fun _ _ _ h => h) (Or.inl ⟨by rfl, ?h32⟩) (J8.out.2.cb.cell 1) ?_
            case h32 =>
              intro w hSw
              clear hSw
              go_simp
              with_reducible rfl
            simp only [List.setIfInBounds_toArray, List.set_cons_zero, List.set_cons_succ]
            refine' take_at (i := 33) (d := 147) (v := _) rfl rfl (by kernel_rfl) (by kernel_rfl) (by kernel_rfl) (fun _ _ _ h => h) (Or.inl ⟨by rfl, ?h33⟩) (J8.out.2.cb.cell 1) ?_
            case h33 =>
              intro w hSw
              clear hSw
              go_simp
              with_reducible rfl
            simp only [List.setIfInBounds_toArray, List.set_cons_zero, List.set_cons_succ]
            refine wpAnyH_ready (rs := [31]) (by kernel_rfl) (by simp) ?_
            refine AllReadyH.cons (o := _) rfl (fun KQ hKQ => ?_) AllReadyH.nil
            go_simp
            refine (J8.out.1.one.blocks HS.out.1 HS.out.2.1 HKM.out 0 (by unfold I64; omega) p HPZ.out k2 HZ.out.2.2.2.2).mono ?_
            rintro e s9 ⟨rfl, hM, hb⟩
            clear hM
            have J9 : Hid (Bo17 LS W s9 q r (10 * (k + 1)) s6 s6 F6 G6 ∧ Kp17 s9 F6 G6 ab (aac17 x (.slice b L cc))) := ⟨J8.out.1.later HS.out.1 hb, J8.out.2.later hb⟩
            clear hb J8
            refine hKQ.out _ _ (J9.out.2.cb.cell 1) (fun _ => ?_)
            clear hKQ KQ
            refine wpAnyH_ready (rs := [34]) (by kernel_rfl) (by simp) ?_
            refine AllReadyH.cons (o := _) rfl (fun KQ hKQ => ?_) AllReadyH.nil
            go_simp
            refine (refBlocks_any17 r s6 G6 _ 0 p s9 J9.out.1.two.ld J9.out.1.two.fine HKM.out HPZ.out).mono ?_
            rintro e s10 ⟨rfl, hb⟩
            rw [HZ.out.2.2.2.2]
            have J10 : Hid (Bo17 LS W s10 q r (10 * (k + 1)) s6 s6 F6 G6 ∧ Kp17 s10 F6 G6 ab (aac17 x (.slice b L cc))) := ⟨J9.out.1.later HS.out.1 hb, J9.out.2.later hb⟩
            clear hb J9
            refine hKQ.out _ _ (J10.out.2.cb.cell 1) (fun _ => ?_)
            clear hKQ KQ
            refine' take_at (i := 35) (d := 149) (v := _) rfl rfl (by kernel_rfl) (by kernel_rfl) (by kernel_rfl) (fun _ _ _ h => h) (Or.inl ⟨by rfl, ?h35⟩) (J10.out.2.cb.cell 1) ?_
            case h35 =>
              intro w hSw
              clear hSw
              go_simp
              with_reducible rfl
            simp only [List.setIfInBounds_toArray, List.set_cons_zero, List.set_cons_succ]
            refine' take_at (i := 36) (d := 150) (v := _) rfl rfl (by kernel_rfl) (by kernel_rfl) (by kernel_rfl) (fun _ _ _ h => h) (Or.inl ⟨by rfl, ?h36⟩) (J10.out.2.cb.cell 1) ?_
            case h36 =>
              intro w hSw
              clear hSw
              go_simp
              with_reducible rfl
            simp only [List.setIfInBounds_toArray, List.set_cons_zero, List.set_cons_succ]
            refine wpAnyH_done (by kernel_rfl) ?_ _
            clear z1 z2 z3 z4 z5
            go_wp2
            go_loopw [18] (fun i wx => ∃ j : Nat, j ≤ L ∧ i = .int .i64 (j : Int) ∧ Bo17 LS W wx q r (10 * (k + 1)) s6 s6 F6 G6 ∧ Kp17 wx F6 G6 ab (aac17 x (.slice b L cc))) (fun i _ => L - (intOf i).toNat)
            case atStart => exact ⟨0, Nat.zero_le _, rfl, J10.out.1, J10.out.2⟩
            case round =>
              obtain ⟨j, hj, rfl, hB, hK⟩ := hrel
              have K1 : Hid (Bo17 LS W wr q r (10 * (k + 1)) s6 s6 F6 G6 ∧ Kp17 wr F6 G6 ab (aac17 x (.slice b L cc))) := ⟨hB, hK⟩
              clear hB hK
              have c2 : wr.cell? ⟨ab, 2, none⟩ = some (.slice b L cc) := K1.out.2.cb.cell 2
              by_cases hlj : j < L
              · have hlj' : (j : Int) < (L : Int) := by omega
                have hj0 : (0 : Int) ≤ (j : Int) := by omega
                have hwj : IntKind.wrap .i64 ((j : Int) + 1) = (j : Int) + 1 := by rw [IntKind.wrap_i64]; omega
                obtain ⟨y, hy⟩ : ∃ y, x.ps[j]? = some y := ⟨x.ps[j]'(by rw [← HX.out.2.1]; exact hlj), List.getElem?_eq_getElem _⟩
                obtain ⟨g5, o5, rfl, hcl⟩ := HX.out.2.2.at17 hy
                have HY : Hid (y.size ≤ maxLen ∧ ∀ w, Below W.heap.size W w → w.cell? ⟨g5, o5 + j, none⟩ = some (.string y)) := ⟨HX.out.1.ps y (List.mem_of_getElem? hy), hcl⟩
                have c5 := hcl wr K1.out.1.one.below
                clear hy hcl
                obtain ⟨zq, hzq⟩ : ∃ z, z = (Lk.held s6 y).getD 0 := ⟨_, rfl⟩
                obtain ⟨bq, hbq⟩ : ∃ z, z = (Lk.held s6 y).isSome := ⟨_, rfl⟩
                have HQ : Hid (zq = (Lk.held s6 y).getD 0 ∧ bq = (Lk.held s6 y).isSome) := ⟨hzq, hbq⟩
                have z1 : (zq != zq) = false := by simp
                have z2 : (bq != bq) = false := by simp
                clear hzq hbq
                go_wp2_with fail
                refine (K1.out.1.one.held HS.out.1 HKM.out y HY.out.1 _ rfl).mono ?_
                rintro e t1 ⟨rfl, hM, hb⟩
                clear hM
                rw [← HQ.out.1, ← HQ.out.2]
                have K2 : Hid (Bo17 LS W t1 q r (10 * (k + 1)) s6 s6 F6 G6 ∧ Kp17 t1 F6 G6 ab (aac17 x (.slice (some ⟨g5, o5, none⟩) L cc))) := ⟨K1.out.1.later HS.out.1 hb, K1.out.2.later hb⟩
                clear hb K1
                clear c2 c5
                have c2 : t1.cell? ⟨ab, 2, none⟩ = some (.slice (some ⟨g5, o5, none⟩) L cc) := K2.out.2.cb.cell 2
                have c5 := HY.out.2 t1 K2.out.1.one.below
                go_wp2_with fail
                refine (refHeld_any17 r s6 G6 _ y t1 K2.out.1.two.ld K2.out.1.two.fine HKM.out).mono ?_
                rintro e t2 ⟨rfl, hb⟩
                rw [← HQ.out.1, ← HQ.out.2]
                have K3 : Hid (Bo17 LS W t2 q r (10 * (k + 1)) s6 s6 F6 G6 ∧ Kp17 t2 F6 G6 ab (aac17 x (.slice (some ⟨g5, o5, none⟩) L cc))) := ⟨K2.out.1.later HS.out.1 hb, K2.out.2.later hb⟩
                clear hb K2
                clear c2 c5
                go_wp2
                go_roundw
                case rel => exact ⟨j + 1, by omega, by go_num, K3.out.1, K3.out.2⟩
                case measure => simp [intOf]; omega
              · have hlj' : ¬ (j : Int) < (L : Int) := by omega
                go_wp2
                go_roundw
                case rel => exact ⟨k + 1, s6, F6, G6, by omega, by go_num, K1.out.1⟩
                case measure => simp [intOf]; omega
          · have hob : (x.op == 0) = false := by simp [ho]
            clear ho
            obtain ⟨f, hf⟩ : ∃ f, f = Lk.free s x.who := ⟨_, rfl⟩
            obtain ⟨s6, hs6⟩ : ∃ s6, s6 = Lk.rest s x.who := ⟨_, rfl⟩
            have HT : Hid (Lk.free s x.who = f ∧ Lk.rest s x.who = s6) := ⟨hf.symm, hs6.symm⟩
            have y1 : (f != f) = false := by simp
            clear hf hs6
            go_upto_region 22 with fail
            refine wp_region_held_drew (S := fun w' => w'.cell? ⟨ab, 1, none⟩ = some (.int .i64 x.who)) (by kernel_rfl) d1 (fun _ => ?_)
            have H6 : Hid (Bo17 LS W wr.drew q r (10 * (k + 1)) s s F G ∧ Kp17 wr.drew F G ab (aac17 x (.slice b L cc))) := by
              have h := H5.out.1.later HS.out.1 (Below.refl _ wr).drew
              exact ⟨⟨h.one.mono (by omega), h.two.mono (by omega), h.off⟩, H5.out.2.later (Below.refl _ wr).drew⟩
            clear H5 d0 d1 d2
            generalize wr.drew = w5 at *
            refine' take_at (i := 0) (d := 93) (v := _) rfl rfl (by kernel_rfl) (by kernel_rfl) (by kernel_rfl) (fun _ _ _ h => h) (Or.inl ⟨by rfl, ?h0⟩) (H6.out.2.cb.cell 1) ?_
            case h0 =>
              intro w hSw
              go_simp
              with_reducible rfl
            simp only [List.setIfInBounds_toArray, List.set_cons_zero, List.set_cons_succ]
            refine' take_at (i := 1) (d := 94) (v := _) rfl rfl (by kernel_rfl) (by kernel_rfl) (by kernel_rfl) (fun _ _ _ h => h) (Or.inl ⟨by rfl, ?h1⟩) (H6.out.2.cb.cell 1) ?_
            case h1 =>
              intro w hSw
              go_simp
              with_reducible rfl
            simp only [List.setIfInBounds_toArray, List.set_cons_zero, List.set_cons_succ]
            refine' take_at (i := 2) (d := 95) (v := _) rfl rfl (by kernel_rfl) (by kernel_rfl) (by kernel_rfl) (fun _ _ _ h => h) (Or.inl ⟨by rfl, ?h2⟩) (H6.out.2.cb.cell 1) ?_
            case h2 =>
              intro w hSw
              go_simp
              with_reducible rfl
            simp only [List.setIfInBounds_toArray, List.set_cons_zero, List.set_cons_succ]
            refine' take_at (i := 4) (d := 97) (v := _) rfl rfl (by kernel_rfl) (by kernel_rfl) (by kernel_rfl) (fun _ _ _ h => h) (Or.inl ⟨by rfl, ?h4⟩) (H6.out.2.cb.cell 1) ?_
            case h4 =>
              intro w hSw
              go_simp
              with_reducible rfl
            simp only [List.setIfInBounds_toArray, List.set_cons_zero, List.set_cons_succ]
            refine' take_at (i := 5) (d := 98) (v := _) rfl rfl (by kernel_rfl) (by kernel_rfl) (by kernel_rfl) (fun _ _ _ h => h) (Or.inl ⟨by rfl, ?h5⟩) (H6.out.2.cb.cell 1) ?_
            case h5 =>
              intro w hSw
              go_simp
              with_reducible rfl
            simp only [List.setIfInBounds_toArray, List.set_cons_zero, List.set_cons_succ]
            refine' take_at (i := 6) (d := 99) (v := _) rfl rfl (by kernel_rfl) (by kernel_rfl) (by kernel_rfl) (fun _ _ _ h => h) (Or.inl ⟨by rfl, ?h6⟩) (H6.out.2.cb.cell 1) ?_
            case h6 =>
              intro w hSw
              go_simp
              with_reducible rfl
            simp only [List.setIfInBounds_toArray, List.set_cons_zero, List.set_cons_succ]
            refine wpAnyH_ready (rs := [3]) (by kernel_rfl) (by simp) ?_
            refine AllReadyH.cons (o := _) rfl (fun KQ hKQ => ?_) AllReadyH.nil
            go_simp
            refine (H6.out.1.one.free HS.out.1 HS.out.2.1 HKM.out x.who HX.out.1.who f s6 HT.out.1 HT.out.2).mono ?_
            rintro e w6 ⟨F6, rfl, hM, hmv⟩
            have H7 : Hid (Bo17 LS W w6 q r (10 * (k + 1)) s6 s F6 G ∧ Kp17 w6 F6 G ab (aac17 x (.slice b L cc))) := ⟨H6.out.1.first hM hmv (Nat.le_refl _), H6.out.2.first hmv⟩
            clear hM hmv H6
            refine hKQ.out _ _ (H7.out.2.cb.cell 1) (fun _ => ?_)
            clear hKQ KQ
            refine wpAnyH_ready (rs := [7]) (by kernel_rfl) (by simp) ?_
            refine AllReadyH.cons (o := _) rfl (fun KQ hKQ => ?_) AllReadyH.nil
            go_simp
            refine (mineR_free17 H7.out.1.two HKM.out x.who f s6 HT.out.1 HT.out.2).mono ?_
            rintro e w7 ⟨G6, rfl, hM, hmv⟩
            have J : Hid (Bo17 LS W w7 q r (10 * (k + 1)) s6 s6 F6 G6 ∧ Kp17 w7 F6 G6 ab (aac17 x (.slice b L cc))) := ⟨H7.out.1.second HS.out.1 hM hmv, H7.out.2.second hmv⟩
            clear hM hmv H7
            refine hKQ.out _ _ (J.out.2.cb.cell 1) (fun _ => ?_)
            clear hKQ KQ
            refine' take_at (i := 8) (d := 101) (v := _) rfl rfl (by kernel_rfl) (by kernel_rfl) (by kernel_rfl) (fun _ _ _ h => h) (Or.inl ⟨by rfl, ?h8⟩) (J.out.2.cb.cell 1) ?_
            case h8 =>
              intro w hSw
              clear hSw
              go_simp
              with_reducible rfl
            simp only [List.setIfInBounds_toArray, List.set_cons_zero, List.set_cons_succ]
            refine wpAnyH_done (by kernel_rfl) ?_ _
            obtain ⟨zh, hzh⟩ : ∃ z, z = (Lk.held s6 p).getD 0 := ⟨_, rfl⟩
            obtain ⟨bh, hbh⟩ : ∃ z, z = (Lk.held s6 p).isSome := ⟨_, rfl⟩
            obtain ⟨ln, hln⟩ : ∃ z : Int, z = (s6.length : Int) := ⟨_, rfl⟩
            obtain ⟨k1, hk1⟩ : ∃ z, z = Lk.blocks s6 x.who p := ⟨_, rfl⟩
            obtain ⟨k2, hk2⟩ : ∃ z, z = Lk.blocks s6 0 p := ⟨_, rfl⟩
            have HZ : Hid (zh = (Lk.held s6 p).getD 0 ∧ bh = (Lk.held s6 p).isSome ∧ (s6.length : Int) = ln ∧ Lk.blocks s6 x.who p = k1 ∧ Lk.blocks s6 0 p = k2) := ⟨hzh, hbh, hln.symm, hk1.symm, hk2.symm⟩
            have z1 : (zh != zh) = false := by simp
            have z2 : (bh != bh) = false := by simp
            have z3 : (ln != ln) = false := by simp
            have z4 : (k1 != k1) = false := by simp
            have z5 : (k2 != k2) = false := by simp
            clear hzh hbh hln hk1 hk2
            go_wp2_with fail
            refine (J.out.1.one.held HS.out.1 HKM.out p HPZ.out _ rfl).mono ?_
            rintro e s1 ⟨rfl, hM, hb⟩
            clear hM
            rw [← HZ.out.1, ← HZ.out.2.1]
            have J1 : Hid (Bo17 LS W s1 q r (10 * (k + 1)) s6 s6 F6 G6 ∧ Kp17 s1 F6 G6 ab (aac17 x (.slice b L cc))) := ⟨J.out.1.later HS.out.1 hb, J.out.2.later hb⟩
            clear hb J
            go_wp2_with fail
            refine (refHeld_any17 r s6 G6 _ p s1 J1.out.1.two.ld J1.out.1.two.fine HKM.out).mono ?_
            rintro e s2 ⟨rfl, hb⟩
            rw [← HZ.out.1, ← HZ.out.2.1]
            have J2 : Hid (Bo17 LS W s2 q r (10 * (k + 1)) s6 s6 F6 G6 ∧ Kp17 s2 F6 G6 ab (aac17 x (.slice b L cc))) := ⟨J1.out.1.later HS.out.1 hb, J1.out.2.later hb⟩
            clear hb J1
            go_upto_region 26 with fail
            refine wp_region_held_drew (S := fun w' => w'.cell? ⟨ab, 1, none⟩ = some (.int .i64 x.who)) (by kernel_rfl) (J2.out.2.cb.cell 1) (fun _ => ?_)
            have J3 : Hid (Bo17 LS W s2.drew q r (10 * (k + 1)) s6 s6 F6 G6 ∧ Kp17 s2.drew F6 G6 ab (aac17 x (.slice b L cc))) := ⟨J2.out.1.later HS.out.1 (Below.refl _ _).drew, J2.out.2.later (Below.refl _ _).drew⟩
            clear J2
            generalize s2.drew = s3 at *
            refine' take_at (i := 0) (d := 114) (v := _) rfl rfl (by kernel_rfl) (by kernel_rfl) (by kernel_rfl) (fun _ _ _ h => h) (Or.inl ⟨by rfl, ?h0⟩) (J3.out.2.cb.cell 1) ?_
            case h0 =>
              intro w hSw
              clear hSw
              go_simp
              with_reducible rfl
            simp only [List.setIfInBounds_toArray, List.set_cons_zero, List.set_cons_succ]
            refine' take_at (i := 1) (d := 115) (v := _) rfl rfl (by kernel_rfl) (by kernel_rfl) (by kernel_rfl) (fun _ _ _ h => h) (Or.inl ⟨by rfl, ?h1⟩) (J3.out.2.cb.cell 1) ?_
            case h1 =>
              intro w hSw
              clear hSw
              go_simp
              with_reducible rfl
            simp only [List.setIfInBounds_toArray, List.set_cons_zero, List.set_cons_succ]
            refine' take_at (i := 2) (d := 116) (v := _) rfl rfl (by kernel_rfl) (by kernel_rfl) (by kernel_rfl) (fun _ _ _ h => h) (Or.inl ⟨by rfl, ?h2⟩) (J3.out.2.cb.cell 1) ?_
            case h2 =>
              intro w hSw
              clear hSw
              go_simp
              with_reducible rfl
            simp only [List.setIfInBounds_toArray, List.set_cons_zero, List.set_cons_succ]
            refine' take_at (i := 3) (d := 117) (v := _) rfl rfl (by kernel_rfl) (by kernel_rfl) (by kernel_rfl) (fun _ _ _ h => h) (Or.inl ⟨by rfl, ?h3⟩) (J3.out.2.cb.cell 1) ?_
            case h3 =>
              intro w hSw
              clear hSw
              go_simp
              with_reducible rfl
            simp only [List.setIfInBounds_toArray, List.set_cons_zero, List.set_cons_succ]
            refine' take_at (i := 4) (d := 118) (v := _) rfl rfl (by kernel_rfl) (by kernel_rfl) (by kernel_rfl) (fun _ _ _ h => h) (Or.inl ⟨by rfl, ?h4⟩) (J3.out.2.cb.cell 1) ?_
            case h4 =>
              intro w hSw
              clear hSw
              go_simp
              with_reducible rfl
            simp only [List.setIfInBounds_toArray, List.set_cons_zero, List.set_cons_succ]
            refine' take_at (i := 5) (d := 119) (v := _) rfl rfl (by kernel_rfl) (by kernel_rfl) (by kernel_rfl) (fun _ _ _ h => h) (Or.inl ⟨by rfl, ?h5⟩) (J3.out.2.cb.cell 1) ?_
            case h5 =>
              intro w hSw
              clear hSw
              go_simp
              with_reducible rfl
            simp only [List.setIfInBounds_toArray, List.set_cons_zero, List.set_cons_succ]
            refine' take_at (i := 6) (d := 120) (v := _) rfl rfl (by kernel_rfl) (by kernel_rfl) (by kernel_rfl) (fun _ _ _ h => h) (Or.inl ⟨by rfl, ?h6⟩) (J3.out.2.cb.cell 1) ?_
            case h6 =>
              intro w hSw
              clear hSw
              go_simp
              with_reducible rfl
            simp only [List.setIfInBounds_toArray, List.set_cons_zero, List.set_cons_succ]
            refine' take_at (i := 7) (d := 121) (v := _) rfl rfl (by kernel_rfl) (by kernel_rfl) (by kernel_rfl) (fun _ _ _ h => h) (Or.inl ⟨by rfl, ?h7⟩) (J3.out.2.cb.cell 1) ?_
            case h7 =>
              intro w hSw
              clear hSw
              go_simp
              with_reducible rfl
            simp only [List.setIfInBounds_toArray, List.set_cons_zero, List.set_cons_succ]
            refine' take_at (i := 8) (d := 122) (v := _) rfl rfl (by kernel_rfl) (by kernel_rfl) (by kernel_rfl) (fun _ _ _ h => h) (Or.inl ⟨by rfl, ?h8⟩) (J3.out.2.cb.cell 1) ?_
            case h8 =>
              intro w hSw
              clear hSw
              go_simp
              with_reducible rfl
            simp only [List.setIfInBounds_toArray, List.set_cons_zero, List.set_cons_succ]
            refine' take_at (i := 9) (d := 123) (v := _) rfl rfl (by kernel_rfl) (by kernel_rfl) (by kernel_rfl) (fun _ _ _ h => h) (Or.inl ⟨by rfl, ?h9⟩) (J3.out.2.cb.cell 1) ?_
            case h9 =>
              intro w hSw
              clear hSw
              go_simp
              with_reducible rfl
            simp only [List.setIfInBounds_toArray, List.set_cons_zero, List.set_cons_succ]
            refine' take_at (i := 11) (d := 125) (v := _) rfl rfl (by kernel_rfl) (by kernel_rfl) (by kernel_rfl) (fun _ _ _ h => h) (Or.inl ⟨by rfl, ?h11⟩) (J3.out.2.cb.cell 1) ?_
            case h11 =>
              intro w hSw
              clear hSw
              go_simp
              with_reducible rfl
            simp only [List.setIfInBounds_toArray, List.set_cons_zero, List.set_cons_succ]
            refine wpAnyH_ready (rs := [10]) (by kernel_rfl) (by simp) ?_
            refine AllReadyH.cons (o := _) rfl (fun KQ hKQ => ?_) AllReadyH.nil
            go_simp
            refine (J3.out.1.one.len HS.out.1 HKM.out ln HZ.out.2.2.1).mono ?_
            rintro e s4 ⟨rfl, hM, hb⟩
            clear hM
            have J4 : Hid (Bo17 LS W s4 q r (10 * (k + 1)) s6 s6 F6 G6 ∧ Kp17 s4 F6 G6 ab (aac17 x (.slice b L cc))) := ⟨J3.out.1.later HS.out.1 hb, J3.out.2.later hb⟩
            clear hb J3
            refine hKQ.out _ _ (J4.out.2.cb.cell 1) (fun _ => ?_)
            clear hKQ KQ
            refine wpAnyH_ready (rs := [12]) (by kernel_rfl) (by simp) ?_
            refine AllReadyH.cons (o := _) rfl (fun KQ hKQ => ?_) AllReadyH.nil
            go_simp
            refine (refLen_any17 r s6 G6 s4 J4.out.1.two.ld).mono ?_
            rintro e s5 ⟨rfl, hb⟩
            rw [HZ.out.2.2.1]
            have J5 : Hid (Bo17 LS W s5 q r (10 * (k + 1)) s6 s6 F6 G6 ∧ Kp17 s5 F6 G6 ab (aac17 x (.slice b L cc))) := ⟨J4.out.1.later HS.out.1 hb, J4.out.2.later hb⟩
            clear hb J4
            refine hKQ.out _ _ (J5.out.2.cb.cell 1) (fun _ => ?_)
            clear hKQ KQ
            refine' take_at (i := 13) (d := 127) (v := _) rfl rfl (by kernel_rfl) (by kernel_rfl) (by kernel_rfl) (fun _ _ _ h => h) (Or.inl ⟨by rfl, ?h13⟩) (J5.out.2.cb.cell 1) ?_
            case h13 =>
              intro w hSw
              go_simp
              with_reducible rfl
            simp only [List.setIfInBounds_toArray, List.set_cons_zero, List.set_cons_succ]
            refine' take_at (i := 14) (d := 128) (v := _) rfl rfl (by kernel_rfl) (by kernel_rfl) (by kernel_rfl) (fun _ _ _ h => h) (Or.inl ⟨by rfl, ?h14⟩) (J5.out.2.cb.cell 1) ?_
            case h14 =>
              intro w hSw
              go_simp
              with_reducible rfl
            simp only [List.setIfInBounds_toArray, List.set_cons_zero, List.set_cons_succ]
            refine' take_at (i := 15) (d := 129) (v := _) rfl rfl (by kernel_rfl) (by kernel_rfl) (by kernel_rfl) (fun _ _ _ h => h) (Or.inl ⟨by rfl, ?h15⟩) (J5.out.2.cb.cell 1) ?_
            case h15 =>
              intro w hSw
              go_simp
              with_reducible rfl
            simp only [List.setIfInBounds_toArray, List.set_cons_zero, List.set_cons_succ]
            refine' take_at (i := 16) (d := 130) (v := _) rfl rfl (by kernel_rfl) (by kernel_rfl) (by kernel_rfl) (fun _ _ _ h => h) (Or.inl ⟨by rfl, ?h16⟩) (J5.out.2.cb.cell 1) ?_
            case h16 =>
              intro w hSw
              go_simp
              with_reducible rfl
            simp only [List.setIfInBounds_toArray, List.set_cons_zero, List.set_cons_succ]
            refine' take_at (i := 17) (d := 131) (v := _) rfl rfl (by kernel_rfl) (by kernel_rfl) (by kernel_rfl) (fun _ _ _ h => h) (Or.inl ⟨by rfl, ?h17⟩) (J5.out.2.cb.cell 1) ?_
            case h17 =>
              intro w hSw
              go_simp
              with_reducible rfl
            simp only [List.setIfInBounds_toArray, List.set_cons_zero, List.set_cons_succ]
            refine' take_at (i := 18) (d := 132) (v := _) rfl rfl (by kernel_rfl) (by kernel_rfl) (by kernel_rfl) (fun _ _ _ h => h) (Or.inl ⟨by rfl, ?h18⟩) (J5.out.2.cb.cell 1) ?_
            case h18 =>
              intro w hSw
              go_simp
              with_reducible rfl
            simp only [List.setIfInBounds_toArray, List.set_cons_zero, List.set_cons_succ]
            refine' take_at (i := 19) (d := 133) (v := _) rfl rfl (by kernel_rfl) (by kernel_rfl) (by kernel_rfl) (fun _ _ _ h => h) (Or.inl ⟨by rfl, ?h19⟩) (J5.out.2.cb.cell 1) ?_
            case h19 =>
              intro w hSw
              go_simp
              with_reducible rfl
            simp only [List.setIfInBounds_toArray, List.set_cons_zero, List.set_cons_succ]
            refine' take_at (i := 21) (d := 135) (v := _) rfl rfl (by kernel_rfl) (by kernel_rfl) (by kernel_rfl) (fun _ _ _ h => h) (Or.inl ⟨by rfl, ?h21⟩) (J5.out.2.cb.cell 1) ?_
            case h21 =>
              intro w hSw
              go_simp
              with_reducible rfl
            simp only [List.setIfInBounds_toArray, List.set_cons_zero, List.set_cons_succ]
            refine' take_at (i := 22) (d := 136) (v := _) rfl rfl (by kernel_rfl) (by kernel_rfl) (by kernel_rfl) (fun _ _ _ h => h) (Or.inl ⟨by rfl, ?h22⟩) (J5.out.2.cb.cell 1) ?_
            case h22 =>
              intro w hSw
              go_simp
              with_reducible rfl
            simp only [List.setIfInBounds_toArray, List.set_cons_zero, List.set_cons_succ]
            refine' take_at (i := 23) (d := 137) (v := _) rfl rfl (by kernel_rfl) (by kernel_rfl) (by kernel_rfl) (fun _ _ _ h => h) (Or.inl ⟨by rfl, ?h23⟩) (J5.out.2.cb.cell 1) ?_
            case h23 =>
              intro w hSw
              go_simp
              with_reducible rfl
            simp only [List.setIfInBounds_toArray, List.set_cons_zero, List.set_cons_succ]
            refine' take_at (i := 24) (d := 138) (v := _) rfl rfl (by kernel_rfl) (by kernel_rfl) (by kernel_rfl) (fun _ _ _ h => h) (Or.inl ⟨by rfl, ?h24⟩) (J5.out.2.cb.cell 1) ?_
            case h24 =>
              intro w hSw
              go_simp
              with_reducible rfl
            simp only [List.setIfInBounds_toArray, List.set_cons_zero, List.set_cons_succ]
            refine wpAnyH_ready (rs := [20]) (by kernel_rfl) (by simp) ?_
            refine AllReadyH.cons (o := _) rfl (fun KQ hKQ => ?_) AllReadyH.nil
            go_simp
            refine (J5.out.1.one.blocks HS.out.1 HS.out.2.1 HKM.out x.who HX.out.1.who p HPZ.out k1 HZ.out.2.2.2.1).mono ?_
            rintro e s7 ⟨rfl, hM, hb⟩
            clear hM
            have J7 : Hid (Bo17 LS W s7 q r (10 * (k + 1)) s6 s6 F6 G6 ∧ Kp17 s7 F6 G6 ab (aac17 x (.slice b L cc))) := ⟨J5.out.1.later HS.out.1 hb, J5.out.2.later hb⟩
            clear hb J5
            refine hKQ.out _ _ (J7.out.2.cb.cell 1) (fun _ => ?_)
            clear hKQ KQ
            refine wpAnyH_ready (rs := [25]) (by kernel_rfl) (by simp) ?_
            refine AllReadyH.cons (o := _) rfl (fun KQ hKQ => ?_) AllReadyH.nil
            go_simp
            refine (refBlocks_any17 r s6 G6 _ x.who p s7 J7.out.1.two.ld J7.out.1.two.fine HKM.out HPZ.out).mono ?_
            rintro e s8 ⟨rfl, hb⟩
            rw [HZ.out.2.2.2.1]
            have J8 : Hid (Bo17 LS W s8 q r (10 * (k + 1)) s6 s6 F6 G6 ∧ Kp17 s8 F6 G6 ab (aac17 x (.slice b L cc))) := ⟨J7.out.1.later HS.out.1 hb, J7.out.2.later hb⟩
            clear hb J7
            refine hKQ.out _ _ (J8.out.2.cb.cell 1) (fun _ => ?_)
            clear hKQ KQ
            refine' take_at (i := 26) (d := 140) (v := _) rfl rfl (by kernel_rfl) (by kernel_rfl) (by kernel_rfl) (fun _ _ _ h => h) (Or.inl ⟨by rfl, ?h26⟩) (J8.out.2.cb.cell 1) ?_
            case h26 =>
              intro w hSw
              clear hSw
              go_simp
              with_reducible rfl
            simp only [List.setIfInBounds_toArray, List.set_cons_zero, List.set_cons_succ]
            refine' take_at (i := 27) (d := 141) (v := _) rfl rfl (by kernel_rfl) (by kernel_rfl) (by kernel_rfl) (fun _ _ _ h => h) (Or.inl ⟨by rfl, ?h27⟩) (J8.out.2.cb.cell 1) ?_
            case h27 =>
              intro w hSw
              clear hSw
              go_simp
              with_reducible rfl
            simp only [List.setIfInBounds_toArray, List.set_cons_zero, List.set_cons_succ]
            refine' take_at (i := 28) (d := 142) (v := _) rfl rfl (by kernel_rfl) (by kernel_rfl) (by kernel_rfl) (fun _ _ _ h => h) (Or.inl ⟨by rfl, ?h28⟩) (J8.out.2.cb.cell 1) ?_
            case h28 =>
              intro w hSw
              clear hSw
              go_simp
              with_reducible rfl
            simp only [List.setIfInBounds_toArray, List.set_cons_zero, List.set_cons_succ]
            refine' take_at (i := 29) (d := 143) (v := _) rfl rfl (by kernel_rfl) (by kernel_rfl) (by kernel_rfl) (fun _ _ _ h => h) (Or.inl ⟨by rfl, ?h29⟩) (J8.out.2.cb.cell 1) ?_
            case h29 =>
              intro w hSw
              clear hSw
              go_simp
              with_reducible rfl
            simp only [List.setIfInBounds_toArray, List.set_cons_zero, List.set_cons_succ]
            refine' take_at (i := 30) (d := 144) (v := _) rfl rfl (by kernel_rfl) (by kernel_rfl) (by kernel_rfl) (fun _ _ _ h => h) (Or.inl ⟨by rfl, ?h30⟩) (J8.out.2.cb.cell 1) ?_
            case h30 =>
              intro w hSw
              clear hSw
              go_simp
              with_reducible rfl
            simp only [List.setIfInBounds_toArray, List.set_cons_zero, List.set_cons_succ]
            refine' take_at (i := 32) (d := 146) (v := _) rfl rfl (by kernel_rfl) (by kernel_rfl) (by kernel_rfl) (fun _ _ _ h => h) (Or.inl ⟨by rfl, ?h32⟩) (J8.out.2.cb.cell 1) ?_
            case h32 =>
              intro w hSw
              clear hSw
              go_simp
              with_reducible rfl
            simp only [List.setIfInBounds_toArray, List.set_cons_zero, List.set_cons_succ]
            refine' take_at (i := 33) (d := 147) (v := _) rfl rfl (by kernel_rfl) (by kernel_rfl) (by kernel_rfl) (fun _ _ _ h => h) (Or.inl ⟨by rfl, ?h33⟩) (J8.out.2.cb.cell 1) ?_
            case h33 =>
              intro w hSw
              clear hSw
              go_simp
              with_reducible rfl
            simp only [List.setIfInBounds_toArray, List.set_cons_zero, List.set_cons_succ]
            refine wpAnyH_ready (rs := [31]) (by kernel_rfl) (by simp) ?_
            refine AllReadyH.cons (o := _) rfl (fun KQ hKQ => ?_) AllReadyH.nil
            go_simp
            refine (J8.out.1.one.blocks HS.out.1 HS.out.2.1 HKM.out 0 (by unfold I64; omega) p HPZ.out k2 HZ.out.2.2.2.2).mono ?_
            rintro e s9 ⟨rfl, hM, hb⟩
            clear hM
            have J9 : Hid (Bo17 LS W s9 q r (10 * (k + 1)) s6 s6 F6 G6 ∧ Kp17 s9 F6 G6 ab (aac17 x (.slice b L cc))) := ⟨J8.out.1.later HS.out.1 hb, J8.out.2.later hb⟩
            clear hb J8
            refine hKQ.out _ _ (J9.out.2.cb.cell 1) (fun _ => ?_)
            clear hKQ KQ
            refine wpAnyH_ready (rs := [34]) (by kernel_rfl) (by simp) ?_
            refine AllReadyH.cons (o := _) rfl (fun KQ hKQ => ?_) AllReadyH.nil
            go_simp
            refine (refBlocks_any17 r s6 G6 _ 0 p s9 J9.out.1.two.ld J9.out.1.two.fine HKM.out HPZ.out).mono ?_
            rintro e s10 ⟨rfl, hb⟩
            rw [HZ.out.2.2.2.2]
            have J10 : Hid (Bo17 LS W s10 q r (10 * (k + 1)) s6 s6 F6 G6 ∧ Kp17 s10 F6 G6 ab (aac17 x (.slice b L cc))) := ⟨J9.out.1.later HS.out.1 hb, J9.out.2.later hb⟩
            clear hb J9
            refine hKQ.out _ _ (J10.out.2.cb.cell 1) (fun _ => ?_)
            clear hKQ KQ
            refine' take_at (i := 35) (d := 149) (v := _) rfl rfl (by kernel_rfl) (by kernel_rfl) (by kernel_rfl) (fun _ _ _ h => h) (Or.inl ⟨by rfl, ?h35⟩) (J10.out.2.cb.cell 1) ?_
            case h35 =>
              intro w hSw
              clear hSw
              go_simp
              with_reducible rfl
            simp only [List.setIfInBounds_toArray, List.set_cons_zero, List.set_cons_succ]
            refine' take_at (i := 36) (d := 150) (v := _) rfl rfl (by kernel_rfl) (by kernel_rfl) (by kernel_rfl) (fun _ _ _ h => h) (Or.inl ⟨by rfl, ?h36⟩) (J10.out.2.cb.cell 1) ?_
            case h36 =>
              intro w hSw
              clear hSw
              go_simp
              with_reducible rfl
            simp only [List.setIfInBounds_toArray, List.set_cons_zero, List.set_cons_succ]
            refine wpAnyH_done (by kernel_rfl) ?_ _
            clear z1 z2 z3 z4 z5
            go_wp2
            go_loopw [18] (fun i wx => ∃ j : Nat, j ≤ L ∧ i = .int .i64 (j : Int) ∧ Bo17 LS W wx q r (10 * (k + 1)) s6 s6 F6 G6 ∧ Kp17 wx F6 G6 ab (aac17 x (.slice b L cc))) (fun i _ => L - (intOf i).toNat)
            case atStart => exact ⟨0, Nat.zero_le _, rfl, J10.out.1, J10.out.2⟩
            case round =>
              obtain ⟨j, hj, rfl, hB, hK⟩ := hrel
              have K1 : Hid (Bo17 LS W wr q r (10 * (k + 1)) s6 s6 F6 G6 ∧ Kp17 wr F6 G6 ab (aac17 x (.slice b L cc))) := ⟨hB, hK⟩
              clear hB hK
              have c2 : wr.cell? ⟨ab, 2, none⟩ = some (.slice b L cc) := K1.out.2.cb.cell 2
              by_cases hlj : j < L
              · have hlj' : (j : Int) < (L : Int) := by omega
                have hj0 : (0 : Int) ≤ (j : Int) := by omega
                have hwj : IntKind.wrap .i64 ((j : Int) + 1) = (j : Int) + 1 := by rw [IntKind.wrap_i64]; omega
                obtain ⟨y, hy⟩ : ∃ y, x.ps[j]? = some y := ⟨x.ps[j]'(by rw [← HX.out.2.1]; exact hlj), List.getElem?_eq_getElem _⟩
                obtain ⟨g5, o5, rfl, hcl⟩ := HX.out.2.2.at17 hy
                have HY : Hid (y.size ≤ maxLen ∧ ∀ w, Below W.heap.size W w → w.cell? ⟨g5, o5 + j, none⟩ = some (.string y)) := ⟨HX.out.1.ps y (List.mem_of_getElem? hy), hcl⟩
                have c5 := hcl wr K1.out.1.one.below
                clear hy hcl
                obtain ⟨zq, hzq⟩ : ∃ z, z = (Lk.held s6 y).getD 0 := ⟨_, rfl⟩
                obtain ⟨bq, hbq⟩ : ∃ z, z = (Lk.held s6 y).isSome := ⟨_, rfl⟩
                have HQ : Hid (zq = (Lk.held s6 y).getD 0 ∧ bq = (Lk.held s6 y).isSome) := ⟨hzq, hbq⟩
                have z1 : (zq != zq) = false := by simp
                have z2 : (bq != bq) = false := by simp
                clear hzq hbq
                go_wp2_with fail
                refine (K1.out.1.one.held HS.out.1 HKM.out y HY.out.1 _ rfl).mono ?_
                rintro e t1 ⟨rfl, hM, hb⟩
                clear hM
                rw [← HQ.out.1, ← HQ.out.2]
                have K2 : Hid (Bo17 LS W t1 q r (10 * (k + 1)) s6 s6 F6 G6 ∧ Kp17 t1 F6 G6 ab (aac17 x (.slice (some ⟨g5, o5, none⟩) L cc))) := ⟨K1.out.1.later HS.out.1 hb, K1.out.2.later hb⟩
                clear hb K1
                clear c2 c5
                have c2 : t1.cell? ⟨ab, 2, none⟩ = some (.slice (some ⟨g5, o5, none⟩) L cc) := K2.out.2.cb.cell 2
                have c5 := HY.out.2 t1 K2.out.1.one.below
                go_wp2_with fail
                refine (refHeld_any17 r s6 G6 _ y t1 K2.out.1.two.ld K2.out.1.two.fine HKM.out).mono ?_
                rintro e t2 ⟨rfl, hb⟩
                rw [← HQ.out.1, ← HQ.out.2]
                have K3 : Hid (Bo17 LS W t2 q r (10 * (k + 1)) s6 s6 F6 G6 ∧ Kp17 t2 F6 G6 ab (aac17 x (.slice (some ⟨g5, o5, none⟩) L cc))) := ⟨K2.out.1.later HS.out.1 hb, K2.out.2.later hb⟩
                clear hb K2
                clear c2 c5
                go_wp2
                go_roundw
                case rel => exact ⟨j + 1, by omega, by go_num, K3.out.1, K3.out.2⟩
                case measure => simp [intOf]; omega
              · have hlj' : ¬ (j : Int) < (L : Int) := by omega
                go_wp2
                go_roundw
                case rel => exact ⟨k + 1, s6, F6, G6, by omega, by go_num, K1.out.1⟩
                case measure => simp [intOf]; omega
    · have hlt' : ¬ (k : Int) < (N : Int) := by omega
      go_wp2
      go_ret
      exact ⟨rfl, H3.out.one.below⟩
end Go.Proofs.YtadgjinlblloiaaDoor
