/- SessPlays' walk: the landed Sessions beside the reference's. -/
import Derived.Test.YtlabdhllindenaaLBack15
import Derived.Test.YtlabdhllindenaaRefP15
import Derived.Test.YtlabdhllindenaaRefU15
namespace Go.Proofs.Ytlabdhllindenaa
open Go.RowKit

section
variable {LS : Rep15} {W w w' : World} {q r : Nat} {m : Int} {s t : Sq.St} {F G : Nat → Prop}
theorem mineR_opn (h : Mine15 LRe W w r m t G) (hm : m ≤ 1000000) (span : Int) (a b : Int) (t' : Sq.St) (he : Sq.op t span = (a, b, t')) :
    Calls Try.prog 18 #[dptr r, .int .i64 span] w fun e w' => ∃ G', e = .returned (.tuple #[.int .i64 a, .int .i64 b]) ∧ Mine15 LRe W w' r (m + 1) t' G' ∧ Moved w w' G G' := by
  refine (refOpen_any15 r t G m span w h.ld h.fine (by omega)).mono ?_
  have hf := h.fine.op span
  rw [he] at hf ⊢
  rintro e w' ⟨G', rfl, hl, hv⟩
  exact ⟨G', rfl, h.step hl hf hv, hv⟩
theorem mineR_touch (h : Mine15 LRe W w r m t G) (hm : m ≤ 1000000) (id : Int) (a : Int) (t' : Sq.St) (he : Sq.touch t id = (a, t')) :
    Calls Try.prog 19 #[dptr r, .int .i64 id] w fun e w' => ∃ G', e = .returned (.int .i64 a) ∧ Mine15 LRe W w' r (m + 1) t' G' ∧ Moved w w' G G' := by
  refine (refTouch_any15 r t G m id w h.ld h.fine (by omega)).mono ?_
  have hf := (h.fine.touch id).mono (show m ≤ m + 1 by omega)
  rw [he] at hf ⊢
  rintro e w' ⟨G', rfl, hl, hv⟩
  exact ⟨G', rfl, h.step hl hf hv, hv⟩
theorem mineR_close (h : Mine15 LRe W w r m t G) (id : Int) (a : Int) (t' : Sq.St) (he : Sq.close t id = (a, t')) :
    Calls Try.prog 20 #[dptr r, .int .i64 id] w fun e w' => ∃ G', e = .returned (.int .i64 a) ∧ Mine15 LRe W w' r (m + 1) t' G' ∧ Moved w w' G G' := by
  refine (refClose_any15 r t G m id w h.ld h.fine).mono ?_
  have hf := (h.fine.close id).mono (show m ≤ m + 1 by omega)
  rw [he] at hf ⊢
  rintro e w' ⟨G', rfl, hl, hv⟩
  exact ⟨G', rfl, h.step hl hf hv, hv⟩
theorem mineR_tick (h : Mine15 LRe W w r m t G) (hm : m ≤ 1000000) (zs : List Int) (t' : Sq.St) (hz : Sq.over t = zs) (he : Sq.tick t = t') :
    Calls Try.prog 22 #[dptr r] w fun e w' => ∃ G' v, e = .returned v ∧ Bi w' v zs ∧ (∀ k, v.ownBlock = some k → w.heap.size ≤ k ∧ ¬ G' k) ∧ Mine15 LRe W w' r (m + 1) t' G' ∧ Moved w w' G G' := by
  refine (refTick_any15 r t G m w h.ld h.fine (by omega)).mono ?_
  have hf := h.fine.tick
  rw [he] at hf ⊢
  rw [hz]
  rintro e w' ⟨G', v, rfl, h1, h2, hl, hv⟩
  exact ⟨G', v, rfl, h1, h2, h.step hl hf hv, hv⟩
theorem Bo15.more (S : Specs15 LS) (h : Bo15 LS LRe W w q r m s t F G) (hb : Below w.heap.size w w') : Bo15 LS LRe W w' q r m s t F G := h.later S LRe.lt LRe.keep hb
end

set_option maxRecDepth 20000 in
set_option maxHeartbeats 16000000 in
theorem plays_any15 {LS : Rep15} (S : Specs15 LS) (room : Int) (v : Value) (xs : List Sq.Ac) (W : World) (hv : Acl15 W v xs) (hl : xs.length ≤ maxLen) :
    Calls Try.prog 4 #[.int .i64 room, v] W fun e w' => e = .returned (.bool true) ∧ Below W.heap.size W w' := by
  have HS : Hid (Specs15 LS) := S
  obtain ⟨av, N, c, rfl, hN, hj⟩ := hv
  have HV : Hid (Acl15 W (.slice av N c) xs ∧ N = xs.length) := ⟨⟨av, N, c, rfl, hN, hj⟩, hN⟩
  have hN1 : N ≤ 9223372036854775807 := by unfold maxLen at hl; omega
  clear S hl hN hj
  go_enter Try.func4, Try.ntmps4
  go_wp2_with fail
  refine (awake_any15 HS.out W).mono ?_
  rintro e w0 ⟨rfl, hb0⟩
  have H0 : Hid (Below W.heap.size W w0) := hb0
  clear hb0
  by_cases hr : room < 1 ∨ 64 < room
  · go_wp2_with fail
    refine (mine15_no HS.out room hr w0).mono ?_
    rintro e w1 ⟨rfl, hb1⟩
    have H1 : Hid (Below W.heap.size W w1) := H0.out.trans (hb1.mono H0.out.size)
    clear hb1
    by_cases hr1 : room < 1
    · clear hr
      go_wp2
      go_ret
      exact ⟨rfl, H1.out⟩
    · have hr2 : 64 < room := hr.resolve_left hr1
      clear hr
      go_wp2
      go_ret
      exact ⟨rfl, H1.out⟩
  have hr1 : ¬ room < 1 := fun e => hr (Or.inl e)
  have hr2 : ¬ 64 < room := fun e => hr (Or.inr e)
  have HRM : Hid (1 ≤ room ∧ room ≤ 64) := ⟨by omega, by omega⟩
  clear hr
  go_wp2_with fail
  refine (mine15_new HS.out H0.out room HRM.out).mono ?_
  rintro e w1 ⟨q0, F1, rfl, hM⟩
  have M1 : Hid (Mine15 LS W w1 q0 1 (Sq.new room) F1) := hM
  clear hM H0
  by_cases h100 : 100 < N
  · have h100' : (100 : Int) < (N : Int) := by omega
    go_wp2
    go_ret
    exact ⟨rfl, M1.out.below⟩
  have h100' : ¬ (100 : Int) < (N : Int) := by omega
  obtain ⟨r, hrr⟩ : ∃ z, z = w1.heap.size := ⟨_, rfl⟩
  have H2 : Hid (∃ G, Bo15 LS LRe W (w1.alloc (.cells #[.int .i64 room, .int .i64 0, .int .i64 1, .slice none 0 0] 38)) q0 r 1 (Sq.new room) (Sq.new room) F1 G) := by
    have hb := (Below.refl _ w1).alloc (Nat.le_refl _) (.cells #[.int .i64 room, .int .i64 0, .int .i64 1, .slice none 0 0] 38)
    have hs := M1.out.below.size
    rw [hrr]
    refine ⟨Fs15 (.slice none 0 0) w1.heap.size, M1.out.later HS.out hb, ⟨⟨_, ⟨Cb.made w1 [.int .i64 room, .int .i64 0, .int .i64 1, .slice none 0 0] _, World.ownsRow_nil _ _ _ _⟩, rfl⟩, M1.out.fine, fun k hk => ?_, M1.out.below.trans (hb.mono hs)⟩, fun k hk e => ?_⟩
    · rcases hk with hk | rfl
      · cases hk
      · exact hs
    · have h1 := HS.out.lt M1.out.ld hk
      rcases e with e | e
      · cases e
      · omega
  go_upto_region 9 with fail
  rw [← hrr]
  clear hrr M1
  generalize (w1.alloc (.cells #[.int .i64 room, .int .i64 0, .int .i64 1, .slice none 0 0] 38)) = w2 at *
  go_wp2
  go_loopw [5, 8] (fun sv i wx => ∃ (k q : Nat) (s : Sq.St) (F G : Nat → Prop), k ≤ N ∧ i = .int .i64 (k : Int) ∧ sv = dptr q ∧ Bo15 LS LRe W wx q r (1 + 2 * (k : Int)) s s F G) (fun _ i _ => N - (intOf i).toNat)
  case atStart =>
    obtain ⟨G, hG⟩ := H2.out
    exact ⟨0, q0, _, F1, G, Nat.zero_le _, rfl, rfl, hG⟩
  case round =>
    obtain ⟨k, q, s, F, G, hk, rfl, rfl, hB⟩ := hrel
    have H3 : Hid (Bo15 LS LRe W wr q r (1 + 2 * (k : Int)) s s F G) := hB
    clear hB H2
    by_cases hlt : k < N
    · have hlt' : (k : Int) < (N : Int) := by omega
      have hk0 : (0 : Int) ≤ (k : Int) := by omega
      have hwk : IntKind.wrap .i64 ((k : Int) + 1) = (k : Int) + 1 := by rw [IntKind.wrap_i64]; omega
      have HKM : Hid (1 + 2 * (k : Int) ≤ 1000000 ∧ 1 + 2 * (k : Int) + 1 ≤ 1000000) := ⟨by omega, by omega⟩
      obtain ⟨x, hx⟩ : ∃ x, xs[k]? = some x := ⟨xs[k]'(by rw [← HV.out.2]; exact hlt), List.getElem?_eq_getElem _⟩
      obtain ⟨g, o, rfl, c0, c1, c2⟩ := (HV.out.1.below H3.out.one.below).at hx
      clear hx
      obtain ⟨ab, hab⟩ : ∃ z, z = wr.heap.size := ⟨_, rfl⟩
      have H4 : Hid (Bo15 LS LRe W (wr.alloc (.cells #[.int .i64 x.op, .int .i64 x.id, .int .i64 x.span] 40)) q r (1 + 2 * (k : Int)) s s F G ∧ Kept15 (wr.alloc (.cells #[.int .i64 x.op, .int .i64 x.id, .int .i64 x.span] 40)) (fun k => F k ∨ G k) ab (aac15 x) 40) := by
        have hb := (Below.refl _ wr).alloc (Nat.le_refl _) (.cells #[.int .i64 x.op, .int .i64 x.id, .int .i64 x.span] 40)
        rw [hab]
        exact ⟨H3.out.more HS.out hb, Kept15.made wr _ (fun k hk => hk.elim (fun e => HS.out.lt H3.out.one.ld e) (fun e => LRe.lt H3.out.two.ld e)) (aac15 x) _⟩
      go_upto_region 13 with fail
      rw [← hab]
      clear hab c0 c1 c2 H3
      generalize (wr.alloc (.cells #[.int .i64 x.op, .int .i64 x.id, .int .i64 x.span] 40)) = w3 at *
      have a0 : w3.cell? ⟨ab, 0, none⟩ = some (.int .i64 x.op) := H4.out.2.cb.cell 0
      have a1 : w3.cell? ⟨ab, 1, none⟩ = some (.int .i64 x.id) := H4.out.2.cb.cell 1
      have a2 : w3.cell? ⟨ab, 2, none⟩ = some (.int .i64 x.span) := H4.out.2.cb.cell 2
      by_cases ho0 : x.op = 0
      · have hob : (x.op == 0) = true := by simp [ho0]
        clear ho0
        obtain ⟨za, zb, s6, hz⟩ : ∃ za zb s6, Sq.op s x.span = (za, zb, s6) := ⟨_, _, _, rfl⟩
        have HZ : Hid (Sq.op s x.span = (za, zb, s6)) := hz
        clear hz
        go_wp2_with fail
        refine (H4.out.1.one.opn HS.out HKM.out.1 x.span za zb s6 HZ.out).mono ?_
        rintro e w5 ⟨F6, rfl, hM5, hv5⟩
        have H5 : Hid (Bo15 LS LRe W w5 q r (1 + 2 * (k : Int) + 1) s6 s F6 G ∧ Kept15 w5 (fun k => F6 k ∨ G k) ab (aac15 x) 40) := ⟨H4.out.1.first (LT := LRe) (m' := 1 + 2 * (k : Int) + 1) LRe.lt LRe.keep hM5 hv5 (by omega), H4.out.2.moved (hv5.orl15 G)⟩
        clear hM5 hv5 H4 a0 a1 a2
        have a2 : w5.cell? ⟨ab, 2, none⟩ = some (.int .i64 x.span) := H5.out.2.cb.cell 2
        go_wp2_with fail
        refine (mineR_opn H5.out.1.two HKM.out.2 x.span za zb s6 HZ.out).mono ?_
        rintro e w6 ⟨G6, rfl, hM6, hv6⟩
        have H6 : Hid (Bo15 LS LRe W w6 q r (1 + 2 * (k : Int) + 1 + 1) s6 s6 F6 G6 ∧ Kept15 w6 (fun k => F6 k ∨ G6 k) ab (aac15 x) 40) := ⟨H5.out.1.second HS.out hM6 hv6 (by omega), H5.out.2.moved (hv6.orr15 F6)⟩
        clear hM6 hv6 H5 a2
        have haa : (za == za) = true := by simp
        have hbb : (zb == zb) = true := by simp
        obtain ⟨lb, hlb⟩ : ∃ b, b = Sq.has s6.l x.id := ⟨_, rfl⟩
        have HLB : Hid (lb = Sq.has s6.l x.id ∧ (Sq.all s6).length ≤ 1000) := ⟨hlb, by have h := H6.out.1.one.fine.len64; unfold Sq.all; simp; omega⟩
        obtain ⟨Z, hZ⟩ : ∃ Z : ByteArray, Z = ⟨(Sq.bytes s6).toArray⟩ := ⟨_, rfl⟩
        have HZZ : Hid (Z = ⟨(Sq.bytes s6).toArray⟩) := hZ
        have hzz : (Z.toList == Z.toList) = true := by simp
        have hzn : (Z.toList != Z.toList) = false := by simp
        have hnn : (s6.now != s6.now) = false := by simp
        have hll : (lb != lb) = false := by simp
        clear hZ hlb
        go_wp2
        refine wp_region_held_drew (S := fun w' => Below w6.heap.size w6 w') (by kernel_rfl) (Below.refl _ _).drew (fun _ => ?_)
        refine wpAnyH_more (S' := fun w' => Below w6.drew.heap.size w6.drew w') (fun w' h => below_drew h) _ _ _ _ ?_
        have Js0 : Hid (Bo15 LS LRe W w6.drew q r (1 + 2 * (k : Int) + 1 + 1) s6 s6 F6 G6 ∧ Below w6.drew.heap.size w6.drew w6.drew ∧ True) := ⟨H6.out.1.more HS.out (Below.refl _ _).drew, Below.refl _ _, trivial⟩
        have HCL : Hid (∀ w', Below w6.drew.heap.size w6.drew w' → w'.cell? ⟨r, 1, none⟩ = some (.int .i64 s6.now) ∧ w'.cell? ⟨ab, 1, none⟩ = some (.int .i64 x.id)) := by
          have hx : Cb w6.drew ab (aac15 x) 40 := H6.out.2.cb
          have hR := Js0.out.1.two.ld
          exact fun w' hb => by
            obtain ⟨vr, hvr, _⟩ := hR
            exact ⟨(hvr.later hb).blk.cell 1, (hx.below hb).cell 1⟩
        clear H6
        generalize w6.drew = s0 at *
        refine' take_at (i := 0) (d := 123) (v := _) rfl rfl (by kernel_rfl) (by kernel_rfl) (by kernel_rfl) (fun _ _ _ h => h) (Or.inl ⟨by rfl, ?h0⟩) (Js0.out.2.1) ?_
        case h0 =>
          intro w hSw
          go_simp
          with_reducible rfl
        simp only [List.setIfInBounds_toArray, List.set_cons_zero, List.set_cons_succ]
        refine' take_at (i := 1) (d := 124) (v := _) rfl rfl (by kernel_rfl) (by kernel_rfl) (by kernel_rfl) (fun _ _ _ h => h) (Or.inl ⟨by rfl, ?h1⟩) (Js0.out.2.1) ?_
        case h1 =>
          intro w hSw
          go_simp
          with_reducible rfl
        simp only [List.setIfInBounds_toArray, List.set_cons_zero, List.set_cons_succ]
        refine' take_at (i := 2) (d := 125) (v := _) rfl rfl (by kernel_rfl) (by kernel_rfl) (by kernel_rfl) (fun _ _ _ h => h) (Or.inl ⟨by rfl, ?h2⟩) (Js0.out.2.1) ?_
        case h2 =>
          intro w hSw
          go_simp
          with_reducible rfl
        simp only [List.setIfInBounds_toArray, List.set_cons_zero, List.set_cons_succ]
        refine' take_at (i := 3) (d := 126) (v := _) rfl rfl (by kernel_rfl) (by kernel_rfl) (by kernel_rfl) (fun _ _ _ h => h) (Or.inl ⟨by rfl, ?h3⟩) (Js0.out.2.1) ?_
        case h3 =>
          intro w hSw
          go_simp
          with_reducible rfl
        simp only [List.setIfInBounds_toArray, List.set_cons_zero, List.set_cons_succ]
        refine' take_at (i := 5) (d := 128) (v := _) rfl rfl (by kernel_rfl) (by kernel_rfl) (by kernel_rfl) (fun _ _ _ h => h) (Or.inl ⟨by rfl, ?h5⟩) (Js0.out.2.1) ?_
        case h5 =>
          intro w hSw
          go_simp
          with_reducible rfl
        simp only [List.setIfInBounds_toArray, List.set_cons_zero, List.set_cons_succ]
        refine wpAnyH_ready (rs := [4]) (by kernel_rfl) (by simp) ?_
        refine AllReadyH.cons (o := _) rfl (fun KQ hKQ => ?_) AllReadyH.nil
        go_simp
        refine (Js0.out.1.one.all HS.out).mono ?_
        rintro e s1 ⟨va, rfl, hia, hoa, hM, hb⟩
        have Js1 : Hid (Bo15 LS LRe W s1 q r (1 + 2 * (k : Int) + 1 + 1) s6 s6 F6 G6 ∧ Below s0.heap.size s0 s1 ∧ Bi s1 va (Sq.all s6)) := ⟨Js0.out.1.more HS.out hb, Js0.out.2.1.trans (hb.mono Js0.out.2.1.size), hia⟩
        obtain ⟨a3, n3, c3, rfl, hn3, hc3⟩ := hia
        clear Js0 hb hoa hM hn3 hc3
        simp only []
        refine hKQ.out _ _ Js1.out.2.1 (fun _ => ?_)
        clear hKQ KQ
        refine wpAnyH_ready (rs := [6]) (by kernel_rfl) (by simp) ?_
        refine AllReadyH.cons (o := _) rfl (fun KQ hKQ => ?_) AllReadyH.nil
        go_simp
        refine (refAll_any15 r s6 G6 _ s1 Js1.out.1.two.ld Js1.out.1.two.fine).mono ?_
        rintro e s2 ⟨vb, rfl, hib, hob9, hb⟩
        have Js2 : Hid (Bo15 LS LRe W s2 q r (1 + 2 * (k : Int) + 1 + 1) s6 s6 F6 G6 ∧ Below s0.heap.size s0 s2 ∧ Bi s2 (.slice a3 n3 c3) (Sq.all s6) ∧ Bi s2 vb (Sq.all s6)) := ⟨Js1.out.1.more HS.out hb, Js1.out.2.1.trans (hb.mono Js1.out.2.1.size), Js1.out.2.2.below hb, hib⟩
        obtain ⟨a4, n4, c4, rfl, hn4, hc4⟩ := hib
        clear Js1 hb hob9 hn4 hc4
        simp only []
        refine hKQ.out _ _ Js2.out.2.1 (fun _ => ?_)
        clear hKQ KQ
        refine wpAnyH_ready (rs := [7]) (by kernel_rfl) (by simp) ?_
        refine AllReadyH.cons (o := _) rfl (fun KQ hKQ => ?_) AllReadyH.nil
        go_simp
        refine (ids_any15 _ _ (Sq.all s6) (Sq.all s6) s2 Js2.out.2.2.1 Js2.out.2.2.2 HLB.out.2).mono ?_
        rintro e s3 ⟨rfl, hb⟩
        have Js3 : Hid (Bo15 LS LRe W s3 q r (1 + 2 * (k : Int) + 1 + 1) s6 s6 F6 G6 ∧ Below s0.heap.size s0 s3) := ⟨Js2.out.1.more HS.out hb, Js2.out.2.1.trans (hb.mono Js2.out.2.1.size)⟩
        have hdt : decide (Sq.all s6 = Sq.all s6) = true := decide_eq_true rfl
        rw [hdt]
        clear Js2 hb hdt
        simp only []
        refine hKQ.out _ _ Js3.out.2 (fun _ => ?_)
        clear hKQ KQ
        refine' take_at (i := 8) (d := 131) (v := _) rfl rfl (by kernel_rfl) (by kernel_rfl) (by kernel_rfl) (fun _ _ _ h => h) (Or.inl ⟨by rfl, ?h8⟩) (Js3.out.2) ?_
        case h8 =>
          intro w hSw
          go_simp
          with_reducible rfl
        simp only [List.setIfInBounds_toArray, List.set_cons_zero, List.set_cons_succ]
        refine' take_at (i := 9) (d := 132) (v := _) rfl rfl (by kernel_rfl) (by kernel_rfl) (by kernel_rfl) (fun _ _ _ h => h) (Or.inl ⟨by rfl, ?h9⟩) (Js3.out.2) ?_
        case h9 =>
          intro w hSw
          go_simp
          with_reducible rfl
        simp only [List.setIfInBounds_toArray, List.set_cons_zero, List.set_cons_succ]
        refine' take_at (i := 10) (d := 133) (v := _) rfl rfl (by kernel_rfl) (by kernel_rfl) (by kernel_rfl) (fun _ _ _ h => h) (Or.inl ⟨by rfl, ?h10⟩) (Js3.out.2) ?_
        case h10 =>
          intro w hSw
          go_simp
          with_reducible rfl
        simp only [List.setIfInBounds_toArray, List.set_cons_zero, List.set_cons_succ]
        refine' take_at (i := 11) (d := 134) (v := _) rfl rfl (by kernel_rfl) (by kernel_rfl) (by kernel_rfl) (fun _ _ _ h => h) (Or.inl ⟨by rfl, ?h11⟩) (Js3.out.2) ?_
        case h11 =>
          intro w hSw
          go_simp
          with_reducible rfl
        simp only [List.setIfInBounds_toArray, List.set_cons_zero, List.set_cons_succ]
        refine' take_at (i := 13) (d := 136) (v := _) rfl rfl (by kernel_rfl) (by kernel_rfl) (by kernel_rfl) (fun _ _ _ h => h) (Or.inl ⟨by rfl, ?h13⟩) (Js3.out.2) ?_
        case h13 =>
          intro w hSw
          obtain ⟨y1, y2⟩ := HCL.out w hSw
          go_simp
          with_reducible rfl
        simp only [List.setIfInBounds_toArray, List.set_cons_zero, List.set_cons_succ]
        refine' take_at (i := 14) (d := 137) (v := _) rfl rfl (by kernel_rfl) (by kernel_rfl) (by kernel_rfl) (fun _ _ _ h => h) (Or.inl ⟨by rfl, ?h14⟩) (Js3.out.2) ?_
        case h14 =>
          intro w hSw
          obtain ⟨y1, y2⟩ := HCL.out w hSw
          go_simp
          with_reducible rfl
        simp only [List.setIfInBounds_toArray, List.set_cons_zero, List.set_cons_succ]
        refine' take_at (i := 15) (d := 138) (v := _) rfl rfl (by kernel_rfl) (by kernel_rfl) (by kernel_rfl) (fun _ _ _ h => h) (Or.inl ⟨by rfl, ?h15⟩) (Js3.out.2) ?_
        case h15 =>
          intro w hSw
          obtain ⟨y1, y2⟩ := HCL.out w hSw
          go_simp
          with_reducible rfl
        simp only [List.setIfInBounds_toArray, List.set_cons_zero, List.set_cons_succ]
        refine' take_at (i := 16) (d := 139) (v := _) rfl rfl (by kernel_rfl) (by kernel_rfl) (by kernel_rfl) (fun _ _ _ h => h) (Or.inl ⟨by rfl, ?h16⟩) (Js3.out.2) ?_
        case h16 =>
          intro w hSw
          obtain ⟨y1, y2⟩ := HCL.out w hSw
          go_simp
          with_reducible rfl
        simp only [List.setIfInBounds_toArray, List.set_cons_zero, List.set_cons_succ]
        refine wpAnyH_ready (rs := [12]) (by kernel_rfl) (by simp) ?_
        refine AllReadyH.cons (o := _) rfl (fun KQ hKQ => ?_) AllReadyH.nil
        go_simp
        refine (Js3.out.1.one.now HS.out s6.now rfl).mono ?_
        rintro e s4 ⟨rfl, hM, hb⟩
        have Js4 : Hid (Bo15 LS LRe W s4 q r (1 + 2 * (k : Int) + 1 + 1) s6 s6 F6 G6 ∧ Below s0.heap.size s0 s4) := ⟨Js3.out.1.more HS.out hb, Js3.out.2.trans (hb.mono Js3.out.2.size)⟩
        clear Js3 hb hM
        simp only []
        refine hKQ.out _ _ Js4.out.2 (fun _ => ?_)
        clear hKQ KQ
        refine' take_at (i := 17) (d := 140) (v := _) rfl rfl (by kernel_rfl) (by kernel_rfl) (by kernel_rfl) (fun _ _ _ h => h) (Or.inl ⟨by rfl, ?h17⟩) (Js4.out.2) ?_
        case h17 =>
          intro w hSw
          go_simp
          with_reducible rfl
        simp only [List.setIfInBounds_toArray, List.set_cons_zero, List.set_cons_succ]
        refine' take_at (i := 18) (d := 141) (v := _) rfl rfl (by kernel_rfl) (by kernel_rfl) (by kernel_rfl) (fun _ _ _ h => h) (Or.inl ⟨by rfl, ?h18⟩) (Js4.out.2) ?_
        case h18 =>
          intro w hSw
          go_simp
          with_reducible rfl
        simp only [List.setIfInBounds_toArray, List.set_cons_zero, List.set_cons_succ]
        refine' take_at (i := 19) (d := 142) (v := _) rfl rfl (by kernel_rfl) (by kernel_rfl) (by kernel_rfl) (fun _ _ _ h => h) (Or.inl ⟨by rfl, ?h19⟩) (Js4.out.2) ?_
        case h19 =>
          intro w hSw
          go_simp
          with_reducible rfl
        simp only [List.setIfInBounds_toArray, List.set_cons_zero, List.set_cons_succ]
        refine' take_at (i := 20) (d := 143) (v := _) rfl rfl (by kernel_rfl) (by kernel_rfl) (by kernel_rfl) (fun _ _ _ h => h) (Or.inl ⟨by rfl, ?h20⟩) (Js4.out.2) ?_
        case h20 =>
          intro w hSw
          go_simp
          with_reducible rfl
        simp only [List.setIfInBounds_toArray, List.set_cons_zero, List.set_cons_succ]
        refine' take_at (i := 24) (d := 147) (v := _) rfl rfl (by kernel_rfl) (by kernel_rfl) (by kernel_rfl) (fun _ _ _ h => h) (Or.inl ⟨by rfl, ?h24⟩) (Js4.out.2) ?_
        case h24 =>
          intro w hSw
          go_simp
          with_reducible rfl
        simp only [List.setIfInBounds_toArray, List.set_cons_zero, List.set_cons_succ]
        refine' take_at (i := 21) (d := 144) (v := _) rfl rfl (by kernel_rfl) (by kernel_rfl) (by kernel_rfl) (fun _ _ _ h => h) (Or.inl ⟨by rfl, ?h21⟩) (Js4.out.2) ?_
        case h21 =>
          intro w hSw
          obtain ⟨y1, y2⟩ := HCL.out w hSw
          go_simp
          with_reducible rfl
        simp only [List.setIfInBounds_toArray, List.set_cons_zero, List.set_cons_succ]
        refine' take_at (i := 22) (d := 145) (v := _) rfl rfl (by kernel_rfl) (by kernel_rfl) (by kernel_rfl) (fun _ _ _ h => h) (Or.inl ⟨by rfl, ?h22⟩) (Js4.out.2) ?_
        case h22 =>
          intro w hSw
          obtain ⟨y1, y2⟩ := HCL.out w hSw
          go_simp
          with_reducible rfl
        simp only [List.setIfInBounds_toArray, List.set_cons_zero, List.set_cons_succ]
        refine' take_at (i := 25) (d := 148) (v := _) rfl rfl (by kernel_rfl) (by kernel_rfl) (by kernel_rfl) (fun _ _ _ h => h) (Or.inl ⟨by rfl, ?h25⟩) (Js4.out.2) ?_
        case h25 =>
          intro w hSw
          obtain ⟨y1, y2⟩ := HCL.out w hSw
          go_simp
          with_reducible rfl
        simp only [List.setIfInBounds_toArray, List.set_cons_zero, List.set_cons_succ]
        refine' take_at (i := 26) (d := 149) (v := _) rfl rfl (by kernel_rfl) (by kernel_rfl) (by kernel_rfl) (fun _ _ _ h => h) (Or.inl ⟨by rfl, ?h26⟩) (Js4.out.2) ?_
        case h26 =>
          intro w hSw
          obtain ⟨y1, y2⟩ := HCL.out w hSw
          go_simp
          with_reducible rfl
        simp only [List.setIfInBounds_toArray, List.set_cons_zero, List.set_cons_succ]
        refine wpAnyH_ready (rs := [23]) (by kernel_rfl) (by simp) ?_
        refine AllReadyH.cons (o := _) rfl (fun KQ hKQ => ?_) AllReadyH.nil
        go_simp
        refine (Js4.out.1.one.live HS.out x.id lb HLB.out.1.symm).mono ?_
        rintro e s5 ⟨rfl, hM, hb⟩
        have Js5 : Hid (Bo15 LS LRe W s5 q r (1 + 2 * (k : Int) + 1 + 1) s6 s6 F6 G6 ∧ Below s0.heap.size s0 s5) := ⟨Js4.out.1.more HS.out hb, Js4.out.2.trans (hb.mono Js4.out.2.size)⟩
        clear Js4 hb hM
        simp only []
        refine hKQ.out _ _ Js5.out.2 (fun _ => ?_)
        clear hKQ KQ
        refine wpAnyH_ready (rs := [27]) (by kernel_rfl) (by simp) ?_
        refine AllReadyH.cons (o := _) rfl (fun KQ hKQ => ?_) AllReadyH.nil
        go_simp
        refine (refLive_any15 r s6 G6 _ x.id s5 Js5.out.1.two.ld Js5.out.1.two.fine).mono ?_
        rintro e s7 ⟨rfl, hb⟩
        have Js7 : Hid (Bo15 LS LRe W s7 q r (1 + 2 * (k : Int) + 1 + 1) s6 s6 F6 G6 ∧ Below s0.heap.size s0 s7) := ⟨Js5.out.1.more HS.out hb, Js5.out.2.trans (hb.mono Js5.out.2.size)⟩
        rw [← HLB.out.1]
        clear Js5 hb
        simp only []
        refine hKQ.out _ _ Js7.out.2 (fun _ => ?_)
        clear hKQ KQ
        refine' take_at (i := 28) (d := 151) (v := _) rfl rfl (by kernel_rfl) (by kernel_rfl) (by kernel_rfl) (fun _ _ _ h => h) (Or.inl ⟨by rfl, ?h28⟩) (Js7.out.2) ?_
        case h28 =>
          intro w hSw
          go_simp
          with_reducible rfl
        simp only [List.setIfInBounds_toArray, List.set_cons_zero, List.set_cons_succ]
        refine' take_at (i := 29) (d := 152) (v := _) rfl rfl (by kernel_rfl) (by kernel_rfl) (by kernel_rfl) (fun _ _ _ h => h) (Or.inl ⟨by rfl, ?h29⟩) (Js7.out.2) ?_
        case h29 =>
          intro w hSw
          go_simp
          with_reducible rfl
        simp only [List.setIfInBounds_toArray, List.set_cons_zero, List.set_cons_succ]
        refine' take_at (i := 30) (d := 153) (v := _) rfl rfl (by kernel_rfl) (by kernel_rfl) (by kernel_rfl) (fun _ _ _ h => h) (Or.inl ⟨by rfl, ?h30⟩) (Js7.out.2) ?_
        case h30 =>
          intro w hSw
          go_simp
          with_reducible rfl
        simp only [List.setIfInBounds_toArray, List.set_cons_zero, List.set_cons_succ]
        refine' take_at (i := 31) (d := 154) (v := _) rfl rfl (by kernel_rfl) (by kernel_rfl) (by kernel_rfl) (fun _ _ _ h => h) (Or.inl ⟨by rfl, ?h31⟩) (Js7.out.2) ?_
        case h31 =>
          intro w hSw
          go_simp
          with_reducible rfl
        simp only [List.setIfInBounds_toArray, List.set_cons_zero, List.set_cons_succ]
        refine' take_at (i := 34) (d := 157) (v := _) rfl rfl (by kernel_rfl) (by kernel_rfl) (by kernel_rfl) (fun _ _ _ h => h) (Or.inl ⟨by rfl, ?h34⟩) (Js7.out.2) ?_
        case h34 =>
          intro w hSw
          go_simp
          with_reducible rfl
        simp only [List.setIfInBounds_toArray, List.set_cons_zero, List.set_cons_succ]
        refine wpAnyH_ready (rs := [32]) (by kernel_rfl) (by simp) ?_
        refine AllReadyH.cons (o := _) rfl (fun KQ hKQ => ?_) AllReadyH.nil
        go_simp
        refine (Js7.out.1.one.put HS.out).mono ?_
        rintro e s8 ⟨vp, rfl, hvp, hM, hb⟩
        have Js8 : Hid (Bo15 LS LRe W s8 q r (1 + 2 * (k : Int) + 1 + 1) s6 s6 F6 G6 ∧ Below s0.heap.size s0 s8 ∧ Bs s8 vp (Sq.bytes s6)) := ⟨Js7.out.1.more HS.out hb, Js7.out.2.trans (hb.mono Js7.out.2.size), Bs.own hvp⟩
        obtain ⟨ap, cp9, hve, _, _⟩ := row_form hvp
        obtain ⟨LB9, hLB9⟩ : ∃ z, z = (Sq.bytes s6).length := ⟨_, rfl⟩
        rw [← hLB9] at hve
        subst hve
        clear hvp hM hLB9 Js7 hb
        simp only []
        refine hKQ.out _ _ Js8.out.2.1 (fun _ => ?_)
        refine wpAnyH_more (S' := fun w' => Below s8.heap.size s8 w') (fun w' h => Js8.out.2.1.trans (h.mono Js8.out.2.1.size)) _ _ _ _ ?_
        clear hKQ KQ
        refine' take_at (i := 33) (d := 156) (v := _) rfl rfl (by kernel_rfl) (by kernel_rfl) (by kernel_rfl) (fun _ _ _ h => h) (Or.inl ⟨by rfl, ?h33⟩) (Below.refl _ _) ?_
        case h33 =>
          intro w hSw
          have hcv := (Js8.out.2.2.below hSw).conv
          rw [← HZZ.out] at hcv
          go_simp
          with_reducible rfl
        simp only [List.setIfInBounds_toArray, List.set_cons_zero, List.set_cons_succ]
        refine wpAnyH_ready (rs := [35]) (by kernel_rfl) (by simp) ?_
        refine AllReadyH.cons (o := _) rfl (fun KQ hKQ => ?_) AllReadyH.nil
        go_simp
        refine (refPut_any15 r s6 G6 _ s8 Js8.out.1.two.ld Js8.out.1.two.fine).mono ?_
        rintro e s9 ⟨vp, rfl, hvp, hb⟩
        have Js9 : Hid (Bo15 LS LRe W s9 q r (1 + 2 * (k : Int) + 1 + 1) s6 s6 F6 G6 ∧ Bs s9 vp (Sq.bytes s6)) := ⟨Js8.out.1.more HS.out hb, hvp⟩
        obtain ⟨ap2, np2, cp2, rfl, hxp1, hxp2⟩ := hvp
        clear hxp1 hxp2 Js8
        simp only []
        refine hKQ.out _ _ hb (fun _ => ?_)
        refine wpAnyH_more (S' := fun w' => Below s9.heap.size s9 w') (fun w' h => hb.trans (h.mono hb.size)) _ _ _ _ ?_
        clear hKQ KQ hb
        refine' take_at (i := 36) (d := 159) (v := _) rfl rfl (by kernel_rfl) (by kernel_rfl) (by kernel_rfl) (fun _ _ _ h => h) (Or.inl ⟨by rfl, ?h36⟩) (Below.refl _ _) ?_
        case h36 =>
          intro w hSw
          have hcv := (Js9.out.2.below hSw).conv
          rw [← HZZ.out] at hcv
          go_simp
          with_reducible rfl
        simp only [List.setIfInBounds_toArray, List.set_cons_zero, List.set_cons_succ]
        refine' take_at (i := 37) (d := 160) (v := _) rfl rfl (by kernel_rfl) (by kernel_rfl) (by kernel_rfl) (fun _ _ _ h => h) (Or.inl ⟨by rfl, ?h37⟩) (Below.refl _ _) ?_
        case h37 =>
          intro w hSw
          go_simp
          with_reducible rfl
        simp only [List.setIfInBounds_toArray, List.set_cons_zero, List.set_cons_succ]
        refine' take_at (i := 38) (d := 161) (v := _) rfl rfl (by kernel_rfl) (by kernel_rfl) (by kernel_rfl) (fun _ _ _ h => h) (Or.inl ⟨by rfl, ?h38⟩) (Below.refl _ _) ?_
        case h38 =>
          intro w hSw
          go_simp
          with_reducible rfl
        simp only [List.setIfInBounds_toArray, List.set_cons_zero, List.set_cons_succ]
        refine wpAnyH_done (by kernel_rfl) ?_ _
        go_wp2
        go_roundw
        case rel => exact ⟨k + 1, q, s6, F6, G6, by omega, by go_num, rfl, by rw [show 1 + 2 * ((k + 1 : Nat) : Int) = (1 + 2 * (k : Int) + 1 + 1) by omega]; exact Js9.out.1⟩
        case measure => simp [intOf]; omega
      have hob : (x.op == 0) = false := by simp [ho0]
      by_cases ho1 : x.op = 1
      · have hob1 : (x.op == 1) = true := by simp [ho1]
        clear ho0 ho1
        obtain ⟨za, s6, hz⟩ : ∃ za s6, Sq.touch s x.id = (za, s6) := ⟨_, _, rfl⟩
        have HZ : Hid (Sq.touch s x.id = (za, s6)) := hz
        clear hz
        go_wp2
        refine wp_region_held_drew (S := fun w' => w'.cell? ⟨ab, 1, none⟩ = some (.int .i64 x.id)) (by kernel_rfl) a1 (fun _ => ?_)
        have H45 : Hid (Bo15 LS LRe W w3.drew q r (1 + 2 * (k : Int)) s s F G ∧ Kept15 w3.drew (fun k => F k ∨ G k) ab (aac15 x) 40) := ⟨H4.out.1.more HS.out (Below.refl _ _).drew, H4.out.2.later (Below.refl _ _).drew⟩
        clear H4 a0 a1 a2
        generalize w3.drew = w4 at *
        refine' take_at (i := 0) (d := 96) (v := _) rfl rfl (by kernel_rfl) (by kernel_rfl) (by kernel_rfl) (fun _ _ _ h => h) (Or.inl ⟨by rfl, ?h0⟩) (H45.out.2.cb.cell 1) ?_
        case h0 =>
          intro w hSw
          go_simp
          with_reducible rfl
        simp only [List.setIfInBounds_toArray, List.set_cons_zero, List.set_cons_succ]
        refine' take_at (i := 1) (d := 97) (v := _) rfl rfl (by kernel_rfl) (by kernel_rfl) (by kernel_rfl) (fun _ _ _ h => h) (Or.inl ⟨by rfl, ?h1⟩) (H45.out.2.cb.cell 1) ?_
        case h1 =>
          intro w hSw
          go_simp
          with_reducible rfl
        simp only [List.setIfInBounds_toArray, List.set_cons_zero, List.set_cons_succ]
        refine' take_at (i := 2) (d := 98) (v := _) rfl rfl (by kernel_rfl) (by kernel_rfl) (by kernel_rfl) (fun _ _ _ h => h) (Or.inl ⟨by rfl, ?h2⟩) (H45.out.2.cb.cell 1) ?_
        case h2 =>
          intro w hSw
          go_simp
          with_reducible rfl
        simp only [List.setIfInBounds_toArray, List.set_cons_zero, List.set_cons_succ]
        refine' take_at (i := 4) (d := 100) (v := _) rfl rfl (by kernel_rfl) (by kernel_rfl) (by kernel_rfl) (fun _ _ _ h => h) (Or.inl ⟨by rfl, ?h4⟩) (H45.out.2.cb.cell 1) ?_
        case h4 =>
          intro w hSw
          go_simp
          with_reducible rfl
        simp only [List.setIfInBounds_toArray, List.set_cons_zero, List.set_cons_succ]
        refine' take_at (i := 5) (d := 101) (v := _) rfl rfl (by kernel_rfl) (by kernel_rfl) (by kernel_rfl) (fun _ _ _ h => h) (Or.inl ⟨by rfl, ?h5⟩) (H45.out.2.cb.cell 1) ?_
        case h5 =>
          intro w hSw
          go_simp
          with_reducible rfl
        simp only [List.setIfInBounds_toArray, List.set_cons_zero, List.set_cons_succ]
        refine' take_at (i := 6) (d := 102) (v := _) rfl rfl (by kernel_rfl) (by kernel_rfl) (by kernel_rfl) (fun _ _ _ h => h) (Or.inl ⟨by rfl, ?h6⟩) (H45.out.2.cb.cell 1) ?_
        case h6 =>
          intro w hSw
          go_simp
          with_reducible rfl
        simp only [List.setIfInBounds_toArray, List.set_cons_zero, List.set_cons_succ]
        refine wpAnyH_ready (rs := [3]) (by kernel_rfl) (by simp) ?_
        refine AllReadyH.cons (o := _) rfl (fun KQ hKQ => ?_) AllReadyH.nil
        go_simp
        refine (H45.out.1.one.touch HS.out HKM.out.1 x.id za s6 HZ.out).mono ?_
        rintro e w5 ⟨F6, rfl, hM5, hv5⟩
        have H5 : Hid (Bo15 LS LRe W w5 q r (1 + 2 * (k : Int) + 1) s6 s F6 G ∧ Kept15 w5 (fun k => F6 k ∨ G k) ab (aac15 x) 40) := ⟨H45.out.1.first (LT := LRe) (m' := 1 + 2 * (k : Int) + 1) LRe.lt LRe.keep (hM5.mono (by omega)) hv5 (by omega), H45.out.2.moved (hv5.orl15 G)⟩
        clear hM5 hv5 H45
        refine hKQ.out _ _ (H5.out.2.cb.cell 1) (fun _ => ?_)
        clear hKQ KQ
        refine wpAnyH_ready (rs := [7]) (by kernel_rfl) (by simp) ?_
        refine AllReadyH.cons (o := _) rfl (fun KQ hKQ => ?_) AllReadyH.nil
        go_simp
        refine (mineR_touch H5.out.1.two HKM.out.2 x.id za s6 HZ.out).mono ?_
        rintro e w6 ⟨G6, rfl, hM6, hv6⟩
        have H6 : Hid (Bo15 LS LRe W w6 q r (1 + 2 * (k : Int) + 1 + 1) s6 s6 F6 G6 ∧ Kept15 w6 (fun k => F6 k ∨ G6 k) ab (aac15 x) 40) := ⟨H5.out.1.second HS.out hM6 hv6 (by omega), H5.out.2.moved (hv6.orr15 F6)⟩
        clear hM6 hv6 H5
        refine hKQ.out _ _ (H6.out.2.cb.cell 1) (fun _ => ?_)
        clear hKQ KQ
        have haa : (za == za) = true := by simp
        refine' take_at (i := 8) (d := 104) (v := _) rfl rfl (by kernel_rfl) (by kernel_rfl) (by kernel_rfl) (fun _ _ _ h => h) (Or.inl ⟨by rfl, ?h8⟩) (H6.out.2.cb.cell 1) ?_
        case h8 =>
          intro w hSw
          clear hSw
          go_simp
          with_reducible rfl
        simp only [List.setIfInBounds_toArray, List.set_cons_zero, List.set_cons_succ]
        refine' take_at (i := 9) (d := 10) (v := _) rfl rfl (by kernel_rfl) (by kernel_rfl) (by kernel_rfl) (fun _ _ _ h => h) (Or.inl ⟨by rfl, ?h9⟩) (H6.out.2.cb.cell 1) ?_
        case h9 =>
          intro w hSw
          clear hSw
          go_simp
          with_reducible rfl
        simp only [List.setIfInBounds_toArray, List.set_cons_zero, List.set_cons_succ]
        refine wpAnyH_done (by kernel_rfl) ?_ _
        obtain ⟨lb, hlb⟩ : ∃ b, b = Sq.has s6.l x.id := ⟨_, rfl⟩
        have HLB : Hid (lb = Sq.has s6.l x.id ∧ (Sq.all s6).length ≤ 1000) := ⟨hlb, by have h := H6.out.1.one.fine.len64; unfold Sq.all; simp; omega⟩
        obtain ⟨Z, hZ⟩ : ∃ Z : ByteArray, Z = ⟨(Sq.bytes s6).toArray⟩ := ⟨_, rfl⟩
        have HZZ : Hid (Z = ⟨(Sq.bytes s6).toArray⟩) := hZ
        have hzz : (Z.toList == Z.toList) = true := by simp
        have hzn : (Z.toList != Z.toList) = false := by simp
        have hnn : (s6.now != s6.now) = false := by simp
        have hll : (lb != lb) = false := by simp
        clear hZ hlb
        go_wp2
        refine wp_region_held_drew (S := fun w' => Below w6.heap.size w6 w') (by kernel_rfl) (Below.refl _ _).drew (fun _ => ?_)
        refine wpAnyH_more (S' := fun w' => Below w6.drew.heap.size w6.drew w') (fun w' h => below_drew h) _ _ _ _ ?_
        have Js0 : Hid (Bo15 LS LRe W w6.drew q r (1 + 2 * (k : Int) + 1 + 1) s6 s6 F6 G6 ∧ Below w6.drew.heap.size w6.drew w6.drew ∧ True) := ⟨H6.out.1.more HS.out (Below.refl _ _).drew, Below.refl _ _, trivial⟩
        have HCL : Hid (∀ w', Below w6.drew.heap.size w6.drew w' → w'.cell? ⟨r, 1, none⟩ = some (.int .i64 s6.now) ∧ w'.cell? ⟨ab, 1, none⟩ = some (.int .i64 x.id)) := by
          have hx : Cb w6.drew ab (aac15 x) 40 := H6.out.2.cb
          have hR := Js0.out.1.two.ld
          exact fun w' hb => by
            obtain ⟨vr, hvr, _⟩ := hR
            exact ⟨(hvr.later hb).blk.cell 1, (hx.below hb).cell 1⟩
        clear H6
        generalize w6.drew = s0 at *
        refine' take_at (i := 0) (d := 123) (v := _) rfl rfl (by kernel_rfl) (by kernel_rfl) (by kernel_rfl) (fun _ _ _ h => h) (Or.inl ⟨by rfl, ?h0⟩) (Js0.out.2.1) ?_
        case h0 =>
          intro w hSw
          go_simp
          with_reducible rfl
        simp only [List.setIfInBounds_toArray, List.set_cons_zero, List.set_cons_succ]
        refine' take_at (i := 1) (d := 124) (v := _) rfl rfl (by kernel_rfl) (by kernel_rfl) (by kernel_rfl) (fun _ _ _ h => h) (Or.inl ⟨by rfl, ?h1⟩) (Js0.out.2.1) ?_
        case h1 =>
          intro w hSw
          go_simp
          with_reducible rfl
        simp only [List.setIfInBounds_toArray, List.set_cons_zero, List.set_cons_succ]
        refine' take_at (i := 2) (d := 125) (v := _) rfl rfl (by kernel_rfl) (by kernel_rfl) (by kernel_rfl) (fun _ _ _ h => h) (Or.inl ⟨by rfl, ?h2⟩) (Js0.out.2.1) ?_
        case h2 =>
          intro w hSw
          go_simp
          with_reducible rfl
        simp only [List.setIfInBounds_toArray, List.set_cons_zero, List.set_cons_succ]
        refine' take_at (i := 3) (d := 126) (v := _) rfl rfl (by kernel_rfl) (by kernel_rfl) (by kernel_rfl) (fun _ _ _ h => h) (Or.inl ⟨by rfl, ?h3⟩) (Js0.out.2.1) ?_
        case h3 =>
          intro w hSw
          go_simp
          with_reducible rfl
        simp only [List.setIfInBounds_toArray, List.set_cons_zero, List.set_cons_succ]
        refine' take_at (i := 5) (d := 128) (v := _) rfl rfl (by kernel_rfl) (by kernel_rfl) (by kernel_rfl) (fun _ _ _ h => h) (Or.inl ⟨by rfl, ?h5⟩) (Js0.out.2.1) ?_
        case h5 =>
          intro w hSw
          go_simp
          with_reducible rfl
        simp only [List.setIfInBounds_toArray, List.set_cons_zero, List.set_cons_succ]
        refine wpAnyH_ready (rs := [4]) (by kernel_rfl) (by simp) ?_
        refine AllReadyH.cons (o := _) rfl (fun KQ hKQ => ?_) AllReadyH.nil
        go_simp
        refine (Js0.out.1.one.all HS.out).mono ?_
        rintro e s1 ⟨va, rfl, hia, hoa, hM, hb⟩
        have Js1 : Hid (Bo15 LS LRe W s1 q r (1 + 2 * (k : Int) + 1 + 1) s6 s6 F6 G6 ∧ Below s0.heap.size s0 s1 ∧ Bi s1 va (Sq.all s6)) := ⟨Js0.out.1.more HS.out hb, Js0.out.2.1.trans (hb.mono Js0.out.2.1.size), hia⟩
        obtain ⟨a3, n3, c3, rfl, hn3, hc3⟩ := hia
        clear Js0 hb hoa hM hn3 hc3
        simp only []
        refine hKQ.out _ _ Js1.out.2.1 (fun _ => ?_)
        clear hKQ KQ
        refine wpAnyH_ready (rs := [6]) (by kernel_rfl) (by simp) ?_
        refine AllReadyH.cons (o := _) rfl (fun KQ hKQ => ?_) AllReadyH.nil
        go_simp
        refine (refAll_any15 r s6 G6 _ s1 Js1.out.1.two.ld Js1.out.1.two.fine).mono ?_
        rintro e s2 ⟨vb, rfl, hib, hob9, hb⟩
        have Js2 : Hid (Bo15 LS LRe W s2 q r (1 + 2 * (k : Int) + 1 + 1) s6 s6 F6 G6 ∧ Below s0.heap.size s0 s2 ∧ Bi s2 (.slice a3 n3 c3) (Sq.all s6) ∧ Bi s2 vb (Sq.all s6)) := ⟨Js1.out.1.more HS.out hb, Js1.out.2.1.trans (hb.mono Js1.out.2.1.size), Js1.out.2.2.below hb, hib⟩
        obtain ⟨a4, n4, c4, rfl, hn4, hc4⟩ := hib
        clear Js1 hb hob9 hn4 hc4
        simp only []
        refine hKQ.out _ _ Js2.out.2.1 (fun _ => ?_)
        clear hKQ KQ
        refine wpAnyH_ready (rs := [7]) (by kernel_rfl) (by simp) ?_
        refine AllReadyH.cons (o := _) rfl (fun KQ hKQ => ?_) AllReadyH.nil
        go_simp
        refine (ids_any15 _ _ (Sq.all s6) (Sq.all s6) s2 Js2.out.2.2.1 Js2.out.2.2.2 HLB.out.2).mono ?_
        rintro e s3 ⟨rfl, hb⟩
        have Js3 : Hid (Bo15 LS LRe W s3 q r (1 + 2 * (k : Int) + 1 + 1) s6 s6 F6 G6 ∧ Below s0.heap.size s0 s3) := ⟨Js2.out.1.more HS.out hb, Js2.out.2.1.trans (hb.mono Js2.out.2.1.size)⟩
        have hdt : decide (Sq.all s6 = Sq.all s6) = true := decide_eq_true rfl
        rw [hdt]
        clear Js2 hb hdt
        simp only []
        refine hKQ.out _ _ Js3.out.2 (fun _ => ?_)
        clear hKQ KQ
        refine' take_at (i := 8) (d := 131) (v := _) rfl rfl (by kernel_rfl) (by kernel_rfl) (by kernel_rfl) (fun _ _ _ h => h) (Or.inl ⟨by rfl, ?h8⟩) (Js3.out.2) ?_
        case h8 =>
          intro w hSw
          go_simp
          with_reducible rfl
        simp only [List.setIfInBounds_toArray, List.set_cons_zero, List.set_cons_succ]
        refine' take_at (i := 9) (d := 132) (v := _) rfl rfl (by kernel_rfl) (by kernel_rfl) (by kernel_rfl) (fun _ _ _ h => h) (Or.inl ⟨by rfl, ?h9⟩) (Js3.out.2) ?_
        case h9 =>
          intro w hSw
          go_simp
          with_reducible rfl
        simp only [List.setIfInBounds_toArray, List.set_cons_zero, List.set_cons_succ]
        refine' take_at (i := 10) (d := 133) (v := _) rfl rfl (by kernel_rfl) (by kernel_rfl) (by kernel_rfl) (fun _ _ _ h => h) (Or.inl ⟨by rfl, ?h10⟩) (Js3.out.2) ?_
        case h10 =>
          intro w hSw
          go_simp
          with_reducible rfl
        simp only [List.setIfInBounds_toArray, List.set_cons_zero, List.set_cons_succ]
        refine' take_at (i := 11) (d := 134) (v := _) rfl rfl (by kernel_rfl) (by kernel_rfl) (by kernel_rfl) (fun _ _ _ h => h) (Or.inl ⟨by rfl, ?h11⟩) (Js3.out.2) ?_
        case h11 =>
          intro w hSw
          go_simp
          with_reducible rfl
        simp only [List.setIfInBounds_toArray, List.set_cons_zero, List.set_cons_succ]
        refine' take_at (i := 13) (d := 136) (v := _) rfl rfl (by kernel_rfl) (by kernel_rfl) (by kernel_rfl) (fun _ _ _ h => h) (Or.inl ⟨by rfl, ?h13⟩) (Js3.out.2) ?_
        case h13 =>
          intro w hSw
          obtain ⟨y1, y2⟩ := HCL.out w hSw
          go_simp
          with_reducible rfl
        simp only [List.setIfInBounds_toArray, List.set_cons_zero, List.set_cons_succ]
        refine' take_at (i := 14) (d := 137) (v := _) rfl rfl (by kernel_rfl) (by kernel_rfl) (by kernel_rfl) (fun _ _ _ h => h) (Or.inl ⟨by rfl, ?h14⟩) (Js3.out.2) ?_
        case h14 =>
          intro w hSw
          obtain ⟨y1, y2⟩ := HCL.out w hSw
          go_simp
          with_reducible rfl
        simp only [List.setIfInBounds_toArray, List.set_cons_zero, List.set_cons_succ]
        refine' take_at (i := 15) (d := 138) (v := _) rfl rfl (by kernel_rfl) (by kernel_rfl) (by kernel_rfl) (fun _ _ _ h => h) (Or.inl ⟨by rfl, ?h15⟩) (Js3.out.2) ?_
        case h15 =>
          intro w hSw
          obtain ⟨y1, y2⟩ := HCL.out w hSw
          go_simp
          with_reducible rfl
        simp only [List.setIfInBounds_toArray, List.set_cons_zero, List.set_cons_succ]
        refine' take_at (i := 16) (d := 139) (v := _) rfl rfl (by kernel_rfl) (by kernel_rfl) (by kernel_rfl) (fun _ _ _ h => h) (Or.inl ⟨by rfl, ?h16⟩) (Js3.out.2) ?_
        case h16 =>
          intro w hSw
          obtain ⟨y1, y2⟩ := HCL.out w hSw
          go_simp
          with_reducible rfl
        simp only [List.setIfInBounds_toArray, List.set_cons_zero, List.set_cons_succ]
        refine wpAnyH_ready (rs := [12]) (by kernel_rfl) (by simp) ?_
        refine AllReadyH.cons (o := _) rfl (fun KQ hKQ => ?_) AllReadyH.nil
        go_simp
        refine (Js3.out.1.one.now HS.out s6.now rfl).mono ?_
        rintro e s4 ⟨rfl, hM, hb⟩
        have Js4 : Hid (Bo15 LS LRe W s4 q r (1 + 2 * (k : Int) + 1 + 1) s6 s6 F6 G6 ∧ Below s0.heap.size s0 s4) := ⟨Js3.out.1.more HS.out hb, Js3.out.2.trans (hb.mono Js3.out.2.size)⟩
        clear Js3 hb hM
        simp only []
        refine hKQ.out _ _ Js4.out.2 (fun _ => ?_)
        clear hKQ KQ
        refine' take_at (i := 17) (d := 140) (v := _) rfl rfl (by kernel_rfl) (by kernel_rfl) (by kernel_rfl) (fun _ _ _ h => h) (Or.inl ⟨by rfl, ?h17⟩) (Js4.out.2) ?_
        case h17 =>
          intro w hSw
          go_simp
          with_reducible rfl
        simp only [List.setIfInBounds_toArray, List.set_cons_zero, List.set_cons_succ]
        refine' take_at (i := 18) (d := 141) (v := _) rfl rfl (by kernel_rfl) (by kernel_rfl) (by kernel_rfl) (fun _ _ _ h => h) (Or.inl ⟨by rfl, ?h18⟩) (Js4.out.2) ?_
        case h18 =>
          intro w hSw
          go_simp
          with_reducible rfl
        simp only [List.setIfInBounds_toArray, List.set_cons_zero, List.set_cons_succ]
        refine' take_at (i := 19) (d := 142) (v := _) rfl rfl (by kernel_rfl) (by kernel_rfl) (by kernel_rfl) (fun _ _ _ h => h) (Or.inl ⟨by rfl, ?h19⟩) (Js4.out.2) ?_
        case h19 =>
          intro w hSw
          go_simp
          with_reducible rfl
        simp only [List.setIfInBounds_toArray, List.set_cons_zero, List.set_cons_succ]
        refine' take_at (i := 20) (d := 143) (v := _) rfl rfl (by kernel_rfl) (by kernel_rfl) (by kernel_rfl) (fun _ _ _ h => h) (Or.inl ⟨by rfl, ?h20⟩) (Js4.out.2) ?_
        case h20 =>
          intro w hSw
          go_simp
          with_reducible rfl
        simp only [List.setIfInBounds_toArray, List.set_cons_zero, List.set_cons_succ]
        refine' take_at (i := 24) (d := 147) (v := _) rfl rfl (by kernel_rfl) (by kernel_rfl) (by kernel_rfl) (fun _ _ _ h => h) (Or.inl ⟨by rfl, ?h24⟩) (Js4.out.2) ?_
        case h24 =>
          intro w hSw
          go_simp
          with_reducible rfl
        simp only [List.setIfInBounds_toArray, List.set_cons_zero, List.set_cons_succ]
        refine' take_at (i := 21) (d := 144) (v := _) rfl rfl (by kernel_rfl) (by kernel_rfl) (by kernel_rfl) (fun _ _ _ h => h) (Or.inl ⟨by rfl, ?h21⟩) (Js4.out.2) ?_
        case h21 =>
          intro w hSw
          obtain ⟨y1, y2⟩ := HCL.out w hSw
          go_simp
          with_reducible rfl
        simp only [List.setIfInBounds_toArray, List.set_cons_zero, List.set_cons_succ]
        refine' take_at (i := 22) (d := 145) (v := _) rfl rfl (by kernel_rfl) (by kernel_rfl) (by kernel_rfl) (fun _ _ _ h => h) (Or.inl ⟨by rfl, ?h22⟩) (Js4.out.2) ?_
        case h22 =>
          intro w hSw
          obtain ⟨y1, y2⟩ := HCL.out w hSw
          go_simp
          with_reducible rfl
        simp only [List.setIfInBounds_toArray, List.set_cons_zero, List.set_cons_succ]
        refine' take_at (i := 25) (d := 148) (v := _) rfl rfl (by kernel_rfl) (by kernel_rfl) (by kernel_rfl) (fun _ _ _ h => h) (Or.inl ⟨by rfl, ?h25⟩) (Js4.out.2) ?_
        case h25 =>
          intro w hSw
          obtain ⟨y1, y2⟩ := HCL.out w hSw
          go_simp
          with_reducible rfl
        simp only [List.setIfInBounds_toArray, List.set_cons_zero, List.set_cons_succ]
        refine' take_at (i := 26) (d := 149) (v := _) rfl rfl (by kernel_rfl) (by kernel_rfl) (by kernel_rfl) (fun _ _ _ h => h) (Or.inl ⟨by rfl, ?h26⟩) (Js4.out.2) ?_
        case h26 =>
          intro w hSw
          obtain ⟨y1, y2⟩ := HCL.out w hSw
          go_simp
          with_reducible rfl
        simp only [List.setIfInBounds_toArray, List.set_cons_zero, List.set_cons_succ]
        refine wpAnyH_ready (rs := [23]) (by kernel_rfl) (by simp) ?_
        refine AllReadyH.cons (o := _) rfl (fun KQ hKQ => ?_) AllReadyH.nil
        go_simp
        refine (Js4.out.1.one.live HS.out x.id lb HLB.out.1.symm).mono ?_
        rintro e s5 ⟨rfl, hM, hb⟩
        have Js5 : Hid (Bo15 LS LRe W s5 q r (1 + 2 * (k : Int) + 1 + 1) s6 s6 F6 G6 ∧ Below s0.heap.size s0 s5) := ⟨Js4.out.1.more HS.out hb, Js4.out.2.trans (hb.mono Js4.out.2.size)⟩
        clear Js4 hb hM
        simp only []
        refine hKQ.out _ _ Js5.out.2 (fun _ => ?_)
        clear hKQ KQ
        refine wpAnyH_ready (rs := [27]) (by kernel_rfl) (by simp) ?_
        refine AllReadyH.cons (o := _) rfl (fun KQ hKQ => ?_) AllReadyH.nil
        go_simp
        refine (refLive_any15 r s6 G6 _ x.id s5 Js5.out.1.two.ld Js5.out.1.two.fine).mono ?_
        rintro e s7 ⟨rfl, hb⟩
        have Js7 : Hid (Bo15 LS LRe W s7 q r (1 + 2 * (k : Int) + 1 + 1) s6 s6 F6 G6 ∧ Below s0.heap.size s0 s7) := ⟨Js5.out.1.more HS.out hb, Js5.out.2.trans (hb.mono Js5.out.2.size)⟩
        rw [← HLB.out.1]
        clear Js5 hb
        simp only []
        refine hKQ.out _ _ Js7.out.2 (fun _ => ?_)
        clear hKQ KQ
        refine' take_at (i := 28) (d := 151) (v := _) rfl rfl (by kernel_rfl) (by kernel_rfl) (by kernel_rfl) (fun _ _ _ h => h) (Or.inl ⟨by rfl, ?h28⟩) (Js7.out.2) ?_
        case h28 =>
          intro w hSw
          go_simp
          with_reducible rfl
        simp only [List.setIfInBounds_toArray, List.set_cons_zero, List.set_cons_succ]
        refine' take_at (i := 29) (d := 152) (v := _) rfl rfl (by kernel_rfl) (by kernel_rfl) (by kernel_rfl) (fun _ _ _ h => h) (Or.inl ⟨by rfl, ?h29⟩) (Js7.out.2) ?_
        case h29 =>
          intro w hSw
          go_simp
          with_reducible rfl
        simp only [List.setIfInBounds_toArray, List.set_cons_zero, List.set_cons_succ]
        refine' take_at (i := 30) (d := 153) (v := _) rfl rfl (by kernel_rfl) (by kernel_rfl) (by kernel_rfl) (fun _ _ _ h => h) (Or.inl ⟨by rfl, ?h30⟩) (Js7.out.2) ?_
        case h30 =>
          intro w hSw
          go_simp
          with_reducible rfl
        simp only [List.setIfInBounds_toArray, List.set_cons_zero, List.set_cons_succ]
        refine' take_at (i := 31) (d := 154) (v := _) rfl rfl (by kernel_rfl) (by kernel_rfl) (by kernel_rfl) (fun _ _ _ h => h) (Or.inl ⟨by rfl, ?h31⟩) (Js7.out.2) ?_
        case h31 =>
          intro w hSw
          go_simp
          with_reducible rfl
        simp only [List.setIfInBounds_toArray, List.set_cons_zero, List.set_cons_succ]
        refine' take_at (i := 34) (d := 157) (v := _) rfl rfl (by kernel_rfl) (by kernel_rfl) (by kernel_rfl) (fun _ _ _ h => h) (Or.inl ⟨by rfl, ?h34⟩) (Js7.out.2) ?_
        case h34 =>
          intro w hSw
          go_simp
          with_reducible rfl
        simp only [List.setIfInBounds_toArray, List.set_cons_zero, List.set_cons_succ]
        refine wpAnyH_ready (rs := [32]) (by kernel_rfl) (by simp) ?_
        refine AllReadyH.cons (o := _) rfl (fun KQ hKQ => ?_) AllReadyH.nil
        go_simp
        refine (Js7.out.1.one.put HS.out).mono ?_
        rintro e s8 ⟨vp, rfl, hvp, hM, hb⟩
        have Js8 : Hid (Bo15 LS LRe W s8 q r (1 + 2 * (k : Int) + 1 + 1) s6 s6 F6 G6 ∧ Below s0.heap.size s0 s8 ∧ Bs s8 vp (Sq.bytes s6)) := ⟨Js7.out.1.more HS.out hb, Js7.out.2.trans (hb.mono Js7.out.2.size), Bs.own hvp⟩
        obtain ⟨ap, cp9, hve, _, _⟩ := row_form hvp
        obtain ⟨LB9, hLB9⟩ : ∃ z, z = (Sq.bytes s6).length := ⟨_, rfl⟩
        rw [← hLB9] at hve
        subst hve
        clear hvp hM hLB9 Js7 hb
        simp only []
        refine hKQ.out _ _ Js8.out.2.1 (fun _ => ?_)
        refine wpAnyH_more (S' := fun w' => Below s8.heap.size s8 w') (fun w' h => Js8.out.2.1.trans (h.mono Js8.out.2.1.size)) _ _ _ _ ?_
        clear hKQ KQ
        refine' take_at (i := 33) (d := 156) (v := _) rfl rfl (by kernel_rfl) (by kernel_rfl) (by kernel_rfl) (fun _ _ _ h => h) (Or.inl ⟨by rfl, ?h33⟩) (Below.refl _ _) ?_
        case h33 =>
          intro w hSw
          have hcv := (Js8.out.2.2.below hSw).conv
          rw [← HZZ.out] at hcv
          go_simp
          with_reducible rfl
        simp only [List.setIfInBounds_toArray, List.set_cons_zero, List.set_cons_succ]
        refine wpAnyH_ready (rs := [35]) (by kernel_rfl) (by simp) ?_
        refine AllReadyH.cons (o := _) rfl (fun KQ hKQ => ?_) AllReadyH.nil
        go_simp
        refine (refPut_any15 r s6 G6 _ s8 Js8.out.1.two.ld Js8.out.1.two.fine).mono ?_
        rintro e s9 ⟨vp, rfl, hvp, hb⟩
        have Js9 : Hid (Bo15 LS LRe W s9 q r (1 + 2 * (k : Int) + 1 + 1) s6 s6 F6 G6 ∧ Bs s9 vp (Sq.bytes s6)) := ⟨Js8.out.1.more HS.out hb, hvp⟩
        obtain ⟨ap2, np2, cp2, rfl, hxp1, hxp2⟩ := hvp
        clear hxp1 hxp2 Js8
        simp only []
        refine hKQ.out _ _ hb (fun _ => ?_)
        refine wpAnyH_more (S' := fun w' => Below s9.heap.size s9 w') (fun w' h => hb.trans (h.mono hb.size)) _ _ _ _ ?_
        clear hKQ KQ hb
        refine' take_at (i := 36) (d := 159) (v := _) rfl rfl (by kernel_rfl) (by kernel_rfl) (by kernel_rfl) (fun _ _ _ h => h) (Or.inl ⟨by rfl, ?h36⟩) (Below.refl _ _) ?_
        case h36 =>
          intro w hSw
          have hcv := (Js9.out.2.below hSw).conv
          rw [← HZZ.out] at hcv
          go_simp
          with_reducible rfl
        simp only [List.setIfInBounds_toArray, List.set_cons_zero, List.set_cons_succ]
        refine' take_at (i := 37) (d := 160) (v := _) rfl rfl (by kernel_rfl) (by kernel_rfl) (by kernel_rfl) (fun _ _ _ h => h) (Or.inl ⟨by rfl, ?h37⟩) (Below.refl _ _) ?_
        case h37 =>
          intro w hSw
          go_simp
          with_reducible rfl
        simp only [List.setIfInBounds_toArray, List.set_cons_zero, List.set_cons_succ]
        refine' take_at (i := 38) (d := 161) (v := _) rfl rfl (by kernel_rfl) (by kernel_rfl) (by kernel_rfl) (fun _ _ _ h => h) (Or.inl ⟨by rfl, ?h38⟩) (Below.refl _ _) ?_
        case h38 =>
          intro w hSw
          go_simp
          with_reducible rfl
        simp only [List.setIfInBounds_toArray, List.set_cons_zero, List.set_cons_succ]
        refine wpAnyH_done (by kernel_rfl) ?_ _
        go_wp2
        go_roundw
        case rel => exact ⟨k + 1, q, s6, F6, G6, by omega, by go_num, rfl, by rw [show 1 + 2 * ((k + 1 : Nat) : Int) = (1 + 2 * (k : Int) + 1 + 1) by omega]; exact Js9.out.1⟩
        case measure => simp [intOf]; omega
      have hob1 : (x.op == 1) = false := by simp [ho1]
      by_cases ho2 : x.op = 2
      · have hob2 : (x.op == 2) = true := by simp [ho2]
        clear ho0 ho1 ho2
        obtain ⟨za, s6, hz⟩ : ∃ za s6, Sq.close s x.id = (za, s6) := ⟨_, _, rfl⟩
        have HZ : Hid (Sq.close s x.id = (za, s6)) := hz
        clear hz
        go_wp2
        refine wp_region_held_drew (S := fun w' => w'.cell? ⟨ab, 1, none⟩ = some (.int .i64 x.id)) (by kernel_rfl) a1 (fun _ => ?_)
        have H45 : Hid (Bo15 LS LRe W w3.drew q r (1 + 2 * (k : Int)) s s F G ∧ Kept15 w3.drew (fun k => F k ∨ G k) ab (aac15 x) 40) := ⟨H4.out.1.more HS.out (Below.refl _ _).drew, H4.out.2.later (Below.refl _ _).drew⟩
        clear H4 a0 a1 a2
        generalize w3.drew = w4 at *
        refine' take_at (i := 0) (d := 107) (v := _) rfl rfl (by kernel_rfl) (by kernel_rfl) (by kernel_rfl) (fun _ _ _ h => h) (Or.inl ⟨by rfl, ?h0⟩) (H45.out.2.cb.cell 1) ?_
        case h0 =>
          intro w hSw
          go_simp
          with_reducible rfl
        simp only [List.setIfInBounds_toArray, List.set_cons_zero, List.set_cons_succ]
        refine' take_at (i := 1) (d := 108) (v := _) rfl rfl (by kernel_rfl) (by kernel_rfl) (by kernel_rfl) (fun _ _ _ h => h) (Or.inl ⟨by rfl, ?h1⟩) (H45.out.2.cb.cell 1) ?_
        case h1 =>
          intro w hSw
          go_simp
          with_reducible rfl
        simp only [List.setIfInBounds_toArray, List.set_cons_zero, List.set_cons_succ]
        refine' take_at (i := 2) (d := 109) (v := _) rfl rfl (by kernel_rfl) (by kernel_rfl) (by kernel_rfl) (fun _ _ _ h => h) (Or.inl ⟨by rfl, ?h2⟩) (H45.out.2.cb.cell 1) ?_
        case h2 =>
          intro w hSw
          go_simp
          with_reducible rfl
        simp only [List.setIfInBounds_toArray, List.set_cons_zero, List.set_cons_succ]
        refine' take_at (i := 4) (d := 111) (v := _) rfl rfl (by kernel_rfl) (by kernel_rfl) (by kernel_rfl) (fun _ _ _ h => h) (Or.inl ⟨by rfl, ?h4⟩) (H45.out.2.cb.cell 1) ?_
        case h4 =>
          intro w hSw
          go_simp
          with_reducible rfl
        simp only [List.setIfInBounds_toArray, List.set_cons_zero, List.set_cons_succ]
        refine' take_at (i := 5) (d := 112) (v := _) rfl rfl (by kernel_rfl) (by kernel_rfl) (by kernel_rfl) (fun _ _ _ h => h) (Or.inl ⟨by rfl, ?h5⟩) (H45.out.2.cb.cell 1) ?_
        case h5 =>
          intro w hSw
          go_simp
          with_reducible rfl
        simp only [List.setIfInBounds_toArray, List.set_cons_zero, List.set_cons_succ]
        refine' take_at (i := 6) (d := 113) (v := _) rfl rfl (by kernel_rfl) (by kernel_rfl) (by kernel_rfl) (fun _ _ _ h => h) (Or.inl ⟨by rfl, ?h6⟩) (H45.out.2.cb.cell 1) ?_
        case h6 =>
          intro w hSw
          go_simp
          with_reducible rfl
        simp only [List.setIfInBounds_toArray, List.set_cons_zero, List.set_cons_succ]
        refine wpAnyH_ready (rs := [3]) (by kernel_rfl) (by simp) ?_
        refine AllReadyH.cons (o := _) rfl (fun KQ hKQ => ?_) AllReadyH.nil
        go_simp
        refine (H45.out.1.one.close HS.out HKM.out.1 x.id za s6 HZ.out).mono ?_
        rintro e w5 ⟨F6, rfl, hM5, hv5⟩
        have H5 : Hid (Bo15 LS LRe W w5 q r (1 + 2 * (k : Int) + 1) s6 s F6 G ∧ Kept15 w5 (fun k => F6 k ∨ G k) ab (aac15 x) 40) := ⟨H45.out.1.first (LT := LRe) (m' := 1 + 2 * (k : Int) + 1) LRe.lt LRe.keep (hM5.mono (by omega)) hv5 (by omega), H45.out.2.moved (hv5.orl15 G)⟩
        clear hM5 hv5 H45
        refine hKQ.out _ _ (H5.out.2.cb.cell 1) (fun _ => ?_)
        clear hKQ KQ
        refine wpAnyH_ready (rs := [7]) (by kernel_rfl) (by simp) ?_
        refine AllReadyH.cons (o := _) rfl (fun KQ hKQ => ?_) AllReadyH.nil
        go_simp
        refine (mineR_close H5.out.1.two x.id za s6 HZ.out).mono ?_
        rintro e w6 ⟨G6, rfl, hM6, hv6⟩
        have H6 : Hid (Bo15 LS LRe W w6 q r (1 + 2 * (k : Int) + 1 + 1) s6 s6 F6 G6 ∧ Kept15 w6 (fun k => F6 k ∨ G6 k) ab (aac15 x) 40) := ⟨H5.out.1.second HS.out hM6 hv6 (by omega), H5.out.2.moved (hv6.orr15 F6)⟩
        clear hM6 hv6 H5
        refine hKQ.out _ _ (H6.out.2.cb.cell 1) (fun _ => ?_)
        clear hKQ KQ
        have haa : (za == za) = true := by simp
        refine' take_at (i := 8) (d := 115) (v := _) rfl rfl (by kernel_rfl) (by kernel_rfl) (by kernel_rfl) (fun _ _ _ h => h) (Or.inl ⟨by rfl, ?h8⟩) (H6.out.2.cb.cell 1) ?_
        case h8 =>
          intro w hSw
          clear hSw
          go_simp
          with_reducible rfl
        simp only [List.setIfInBounds_toArray, List.set_cons_zero, List.set_cons_succ]
        refine' take_at (i := 9) (d := 10) (v := _) rfl rfl (by kernel_rfl) (by kernel_rfl) (by kernel_rfl) (fun _ _ _ h => h) (Or.inl ⟨by rfl, ?h9⟩) (H6.out.2.cb.cell 1) ?_
        case h9 =>
          intro w hSw
          clear hSw
          go_simp
          with_reducible rfl
        simp only [List.setIfInBounds_toArray, List.set_cons_zero, List.set_cons_succ]
        refine wpAnyH_done (by kernel_rfl) ?_ _
        obtain ⟨lb, hlb⟩ : ∃ b, b = Sq.has s6.l x.id := ⟨_, rfl⟩
        have HLB : Hid (lb = Sq.has s6.l x.id ∧ (Sq.all s6).length ≤ 1000) := ⟨hlb, by have h := H6.out.1.one.fine.len64; unfold Sq.all; simp; omega⟩
        obtain ⟨Z, hZ⟩ : ∃ Z : ByteArray, Z = ⟨(Sq.bytes s6).toArray⟩ := ⟨_, rfl⟩
        have HZZ : Hid (Z = ⟨(Sq.bytes s6).toArray⟩) := hZ
        have hzz : (Z.toList == Z.toList) = true := by simp
        have hzn : (Z.toList != Z.toList) = false := by simp
        have hnn : (s6.now != s6.now) = false := by simp
        have hll : (lb != lb) = false := by simp
        clear hZ hlb
        go_wp2
        refine wp_region_held_drew (S := fun w' => Below w6.heap.size w6 w') (by kernel_rfl) (Below.refl _ _).drew (fun _ => ?_)
        refine wpAnyH_more (S' := fun w' => Below w6.drew.heap.size w6.drew w') (fun w' h => below_drew h) _ _ _ _ ?_
        have Js0 : Hid (Bo15 LS LRe W w6.drew q r (1 + 2 * (k : Int) + 1 + 1) s6 s6 F6 G6 ∧ Below w6.drew.heap.size w6.drew w6.drew ∧ True) := ⟨H6.out.1.more HS.out (Below.refl _ _).drew, Below.refl _ _, trivial⟩
        have HCL : Hid (∀ w', Below w6.drew.heap.size w6.drew w' → w'.cell? ⟨r, 1, none⟩ = some (.int .i64 s6.now) ∧ w'.cell? ⟨ab, 1, none⟩ = some (.int .i64 x.id)) := by
          have hx : Cb w6.drew ab (aac15 x) 40 := H6.out.2.cb
          have hR := Js0.out.1.two.ld
          exact fun w' hb => by
            obtain ⟨vr, hvr, _⟩ := hR
            exact ⟨(hvr.later hb).blk.cell 1, (hx.below hb).cell 1⟩
        clear H6
        generalize w6.drew = s0 at *
        refine' take_at (i := 0) (d := 123) (v := _) rfl rfl (by kernel_rfl) (by kernel_rfl) (by kernel_rfl) (fun _ _ _ h => h) (Or.inl ⟨by rfl, ?h0⟩) (Js0.out.2.1) ?_
        case h0 =>
          intro w hSw
          go_simp
          with_reducible rfl
        simp only [List.setIfInBounds_toArray, List.set_cons_zero, List.set_cons_succ]
        refine' take_at (i := 1) (d := 124) (v := _) rfl rfl (by kernel_rfl) (by kernel_rfl) (by kernel_rfl) (fun _ _ _ h => h) (Or.inl ⟨by rfl, ?h1⟩) (Js0.out.2.1) ?_
        case h1 =>
          intro w hSw
          go_simp
          with_reducible rfl
        simp only [List.setIfInBounds_toArray, List.set_cons_zero, List.set_cons_succ]
        refine' take_at (i := 2) (d := 125) (v := _) rfl rfl (by kernel_rfl) (by kernel_rfl) (by kernel_rfl) (fun _ _ _ h => h) (Or.inl ⟨by rfl, ?h2⟩) (Js0.out.2.1) ?_
        case h2 =>
          intro w hSw
          go_simp
          with_reducible rfl
        simp only [List.setIfInBounds_toArray, List.set_cons_zero, List.set_cons_succ]
        refine' take_at (i := 3) (d := 126) (v := _) rfl rfl (by kernel_rfl) (by kernel_rfl) (by kernel_rfl) (fun _ _ _ h => h) (Or.inl ⟨by rfl, ?h3⟩) (Js0.out.2.1) ?_
        case h3 =>
          intro w hSw
          go_simp
          with_reducible rfl
        simp only [List.setIfInBounds_toArray, List.set_cons_zero, List.set_cons_succ]
        refine' take_at (i := 5) (d := 128) (v := _) rfl rfl (by kernel_rfl) (by kernel_rfl) (by kernel_rfl) (fun _ _ _ h => h) (Or.inl ⟨by rfl, ?h5⟩) (Js0.out.2.1) ?_
        case h5 =>
          intro w hSw
          go_simp
          with_reducible rfl
        simp only [List.setIfInBounds_toArray, List.set_cons_zero, List.set_cons_succ]
        refine wpAnyH_ready (rs := [4]) (by kernel_rfl) (by simp) ?_
        refine AllReadyH.cons (o := _) rfl (fun KQ hKQ => ?_) AllReadyH.nil
        go_simp
        refine (Js0.out.1.one.all HS.out).mono ?_
        rintro e s1 ⟨va, rfl, hia, hoa, hM, hb⟩
        have Js1 : Hid (Bo15 LS LRe W s1 q r (1 + 2 * (k : Int) + 1 + 1) s6 s6 F6 G6 ∧ Below s0.heap.size s0 s1 ∧ Bi s1 va (Sq.all s6)) := ⟨Js0.out.1.more HS.out hb, Js0.out.2.1.trans (hb.mono Js0.out.2.1.size), hia⟩
        obtain ⟨a3, n3, c3, rfl, hn3, hc3⟩ := hia
        clear Js0 hb hoa hM hn3 hc3
        simp only []
        refine hKQ.out _ _ Js1.out.2.1 (fun _ => ?_)
        clear hKQ KQ
        refine wpAnyH_ready (rs := [6]) (by kernel_rfl) (by simp) ?_
        refine AllReadyH.cons (o := _) rfl (fun KQ hKQ => ?_) AllReadyH.nil
        go_simp
        refine (refAll_any15 r s6 G6 _ s1 Js1.out.1.two.ld Js1.out.1.two.fine).mono ?_
        rintro e s2 ⟨vb, rfl, hib, hob9, hb⟩
        have Js2 : Hid (Bo15 LS LRe W s2 q r (1 + 2 * (k : Int) + 1 + 1) s6 s6 F6 G6 ∧ Below s0.heap.size s0 s2 ∧ Bi s2 (.slice a3 n3 c3) (Sq.all s6) ∧ Bi s2 vb (Sq.all s6)) := ⟨Js1.out.1.more HS.out hb, Js1.out.2.1.trans (hb.mono Js1.out.2.1.size), Js1.out.2.2.below hb, hib⟩
        obtain ⟨a4, n4, c4, rfl, hn4, hc4⟩ := hib
        clear Js1 hb hob9 hn4 hc4
        simp only []
        refine hKQ.out _ _ Js2.out.2.1 (fun _ => ?_)
        clear hKQ KQ
        refine wpAnyH_ready (rs := [7]) (by kernel_rfl) (by simp) ?_
        refine AllReadyH.cons (o := _) rfl (fun KQ hKQ => ?_) AllReadyH.nil
        go_simp
        refine (ids_any15 _ _ (Sq.all s6) (Sq.all s6) s2 Js2.out.2.2.1 Js2.out.2.2.2 HLB.out.2).mono ?_
        rintro e s3 ⟨rfl, hb⟩
        have Js3 : Hid (Bo15 LS LRe W s3 q r (1 + 2 * (k : Int) + 1 + 1) s6 s6 F6 G6 ∧ Below s0.heap.size s0 s3) := ⟨Js2.out.1.more HS.out hb, Js2.out.2.1.trans (hb.mono Js2.out.2.1.size)⟩
        have hdt : decide (Sq.all s6 = Sq.all s6) = true := decide_eq_true rfl
        rw [hdt]
        clear Js2 hb hdt
        simp only []
        refine hKQ.out _ _ Js3.out.2 (fun _ => ?_)
        clear hKQ KQ
        refine' take_at (i := 8) (d := 131) (v := _) rfl rfl (by kernel_rfl) (by kernel_rfl) (by kernel_rfl) (fun _ _ _ h => h) (Or.inl ⟨by rfl, ?h8⟩) (Js3.out.2) ?_
        case h8 =>
          intro w hSw
          go_simp
          with_reducible rfl
        simp only [List.setIfInBounds_toArray, List.set_cons_zero, List.set_cons_succ]
        refine' take_at (i := 9) (d := 132) (v := _) rfl rfl (by kernel_rfl) (by kernel_rfl) (by kernel_rfl) (fun _ _ _ h => h) (Or.inl ⟨by rfl, ?h9⟩) (Js3.out.2) ?_
        case h9 =>
          intro w hSw
          go_simp
          with_reducible rfl
        simp only [List.setIfInBounds_toArray, List.set_cons_zero, List.set_cons_succ]
        refine' take_at (i := 10) (d := 133) (v := _) rfl rfl (by kernel_rfl) (by kernel_rfl) (by kernel_rfl) (fun _ _ _ h => h) (Or.inl ⟨by rfl, ?h10⟩) (Js3.out.2) ?_
        case h10 =>
          intro w hSw
          go_simp
          with_reducible rfl
        simp only [List.setIfInBounds_toArray, List.set_cons_zero, List.set_cons_succ]
        refine' take_at (i := 11) (d := 134) (v := _) rfl rfl (by kernel_rfl) (by kernel_rfl) (by kernel_rfl) (fun _ _ _ h => h) (Or.inl ⟨by rfl, ?h11⟩) (Js3.out.2) ?_
        case h11 =>
          intro w hSw
          go_simp
          with_reducible rfl
        simp only [List.setIfInBounds_toArray, List.set_cons_zero, List.set_cons_succ]
        refine' take_at (i := 13) (d := 136) (v := _) rfl rfl (by kernel_rfl) (by kernel_rfl) (by kernel_rfl) (fun _ _ _ h => h) (Or.inl ⟨by rfl, ?h13⟩) (Js3.out.2) ?_
        case h13 =>
          intro w hSw
          obtain ⟨y1, y2⟩ := HCL.out w hSw
          go_simp
          with_reducible rfl
        simp only [List.setIfInBounds_toArray, List.set_cons_zero, List.set_cons_succ]
        refine' take_at (i := 14) (d := 137) (v := _) rfl rfl (by kernel_rfl) (by kernel_rfl) (by kernel_rfl) (fun _ _ _ h => h) (Or.inl ⟨by rfl, ?h14⟩) (Js3.out.2) ?_
        case h14 =>
          intro w hSw
          obtain ⟨y1, y2⟩ := HCL.out w hSw
          go_simp
          with_reducible rfl
        simp only [List.setIfInBounds_toArray, List.set_cons_zero, List.set_cons_succ]
        refine' take_at (i := 15) (d := 138) (v := _) rfl rfl (by kernel_rfl) (by kernel_rfl) (by kernel_rfl) (fun _ _ _ h => h) (Or.inl ⟨by rfl, ?h15⟩) (Js3.out.2) ?_
        case h15 =>
          intro w hSw
          obtain ⟨y1, y2⟩ := HCL.out w hSw
          go_simp
          with_reducible rfl
        simp only [List.setIfInBounds_toArray, List.set_cons_zero, List.set_cons_succ]
        refine' take_at (i := 16) (d := 139) (v := _) rfl rfl (by kernel_rfl) (by kernel_rfl) (by kernel_rfl) (fun _ _ _ h => h) (Or.inl ⟨by rfl, ?h16⟩) (Js3.out.2) ?_
        case h16 =>
          intro w hSw
          obtain ⟨y1, y2⟩ := HCL.out w hSw
          go_simp
          with_reducible rfl
        simp only [List.setIfInBounds_toArray, List.set_cons_zero, List.set_cons_succ]
        refine wpAnyH_ready (rs := [12]) (by kernel_rfl) (by simp) ?_
        refine AllReadyH.cons (o := _) rfl (fun KQ hKQ => ?_) AllReadyH.nil
        go_simp
        refine (Js3.out.1.one.now HS.out s6.now rfl).mono ?_
        rintro e s4 ⟨rfl, hM, hb⟩
        have Js4 : Hid (Bo15 LS LRe W s4 q r (1 + 2 * (k : Int) + 1 + 1) s6 s6 F6 G6 ∧ Below s0.heap.size s0 s4) := ⟨Js3.out.1.more HS.out hb, Js3.out.2.trans (hb.mono Js3.out.2.size)⟩
        clear Js3 hb hM
        simp only []
        refine hKQ.out _ _ Js4.out.2 (fun _ => ?_)
        clear hKQ KQ
        refine' take_at (i := 17) (d := 140) (v := _) rfl rfl (by kernel_rfl) (by kernel_rfl) (by kernel_rfl) (fun _ _ _ h => h) (Or.inl ⟨by rfl, ?h17⟩) (Js4.out.2) ?_
        case h17 =>
          intro w hSw
          go_simp
          with_reducible rfl
        simp only [List.setIfInBounds_toArray, List.set_cons_zero, List.set_cons_succ]
        refine' take_at (i := 18) (d := 141) (v := _) rfl rfl (by kernel_rfl) (by kernel_rfl) (by kernel_rfl) (fun _ _ _ h => h) (Or.inl ⟨by rfl, ?h18⟩) (Js4.out.2) ?_
        case h18 =>
          intro w hSw
          go_simp
          with_reducible rfl
        simp only [List.setIfInBounds_toArray, List.set_cons_zero, List.set_cons_succ]
        refine' take_at (i := 19) (d := 142) (v := _) rfl rfl (by kernel_rfl) (by kernel_rfl) (by kernel_rfl) (fun _ _ _ h => h) (Or.inl ⟨by rfl, ?h19⟩) (Js4.out.2) ?_
        case h19 =>
          intro w hSw
          go_simp
          with_reducible rfl
        simp only [List.setIfInBounds_toArray, List.set_cons_zero, List.set_cons_succ]
        refine' take_at (i := 20) (d := 143) (v := _) rfl rfl (by kernel_rfl) (by kernel_rfl) (by kernel_rfl) (fun _ _ _ h => h) (Or.inl ⟨by rfl, ?h20⟩) (Js4.out.2) ?_
        case h20 =>
          intro w hSw
          go_simp
          with_reducible rfl
        simp only [List.setIfInBounds_toArray, List.set_cons_zero, List.set_cons_succ]
        refine' take_at (i := 24) (d := 147) (v := _) rfl rfl (by kernel_rfl) (by kernel_rfl) (by kernel_rfl) (fun _ _ _ h => h) (Or.inl ⟨by rfl, ?h24⟩) (Js4.out.2) ?_
        case h24 =>
          intro w hSw
          go_simp
          with_reducible rfl
        simp only [List.setIfInBounds_toArray, List.set_cons_zero, List.set_cons_succ]
        refine' take_at (i := 21) (d := 144) (v := _) rfl rfl (by kernel_rfl) (by kernel_rfl) (by kernel_rfl) (fun _ _ _ h => h) (Or.inl ⟨by rfl, ?h21⟩) (Js4.out.2) ?_
        case h21 =>
          intro w hSw
          obtain ⟨y1, y2⟩ := HCL.out w hSw
          go_simp
          with_reducible rfl
        simp only [List.setIfInBounds_toArray, List.set_cons_zero, List.set_cons_succ]
        refine' take_at (i := 22) (d := 145) (v := _) rfl rfl (by kernel_rfl) (by kernel_rfl) (by kernel_rfl) (fun _ _ _ h => h) (Or.inl ⟨by rfl, ?h22⟩) (Js4.out.2) ?_
        case h22 =>
          intro w hSw
          obtain ⟨y1, y2⟩ := HCL.out w hSw
          go_simp
          with_reducible rfl
        simp only [List.setIfInBounds_toArray, List.set_cons_zero, List.set_cons_succ]
        refine' take_at (i := 25) (d := 148) (v := _) rfl rfl (by kernel_rfl) (by kernel_rfl) (by kernel_rfl) (fun _ _ _ h => h) (Or.inl ⟨by rfl, ?h25⟩) (Js4.out.2) ?_
        case h25 =>
          intro w hSw
          obtain ⟨y1, y2⟩ := HCL.out w hSw
          go_simp
          with_reducible rfl
        simp only [List.setIfInBounds_toArray, List.set_cons_zero, List.set_cons_succ]
        refine' take_at (i := 26) (d := 149) (v := _) rfl rfl (by kernel_rfl) (by kernel_rfl) (by kernel_rfl) (fun _ _ _ h => h) (Or.inl ⟨by rfl, ?h26⟩) (Js4.out.2) ?_
        case h26 =>
          intro w hSw
          obtain ⟨y1, y2⟩ := HCL.out w hSw
          go_simp
          with_reducible rfl
        simp only [List.setIfInBounds_toArray, List.set_cons_zero, List.set_cons_succ]
        refine wpAnyH_ready (rs := [23]) (by kernel_rfl) (by simp) ?_
        refine AllReadyH.cons (o := _) rfl (fun KQ hKQ => ?_) AllReadyH.nil
        go_simp
        refine (Js4.out.1.one.live HS.out x.id lb HLB.out.1.symm).mono ?_
        rintro e s5 ⟨rfl, hM, hb⟩
        have Js5 : Hid (Bo15 LS LRe W s5 q r (1 + 2 * (k : Int) + 1 + 1) s6 s6 F6 G6 ∧ Below s0.heap.size s0 s5) := ⟨Js4.out.1.more HS.out hb, Js4.out.2.trans (hb.mono Js4.out.2.size)⟩
        clear Js4 hb hM
        simp only []
        refine hKQ.out _ _ Js5.out.2 (fun _ => ?_)
        clear hKQ KQ
        refine wpAnyH_ready (rs := [27]) (by kernel_rfl) (by simp) ?_
        refine AllReadyH.cons (o := _) rfl (fun KQ hKQ => ?_) AllReadyH.nil
        go_simp
        refine (refLive_any15 r s6 G6 _ x.id s5 Js5.out.1.two.ld Js5.out.1.two.fine).mono ?_
        rintro e s7 ⟨rfl, hb⟩
        have Js7 : Hid (Bo15 LS LRe W s7 q r (1 + 2 * (k : Int) + 1 + 1) s6 s6 F6 G6 ∧ Below s0.heap.size s0 s7) := ⟨Js5.out.1.more HS.out hb, Js5.out.2.trans (hb.mono Js5.out.2.size)⟩
        rw [← HLB.out.1]
        clear Js5 hb
        simp only []
        refine hKQ.out _ _ Js7.out.2 (fun _ => ?_)
        clear hKQ KQ
        refine' take_at (i := 28) (d := 151) (v := _) rfl rfl (by kernel_rfl) (by kernel_rfl) (by kernel_rfl) (fun _ _ _ h => h) (Or.inl ⟨by rfl, ?h28⟩) (Js7.out.2) ?_
        case h28 =>
          intro w hSw
          go_simp
          with_reducible rfl
        simp only [List.setIfInBounds_toArray, List.set_cons_zero, List.set_cons_succ]
        refine' take_at (i := 29) (d := 152) (v := _) rfl rfl (by kernel_rfl) (by kernel_rfl) (by kernel_rfl) (fun _ _ _ h => h) (Or.inl ⟨by rfl, ?h29⟩) (Js7.out.2) ?_
        case h29 =>
          intro w hSw
          go_simp
          with_reducible rfl
        simp only [List.setIfInBounds_toArray, List.set_cons_zero, List.set_cons_succ]
        refine' take_at (i := 30) (d := 153) (v := _) rfl rfl (by kernel_rfl) (by kernel_rfl) (by kernel_rfl) (fun _ _ _ h => h) (Or.inl ⟨by rfl, ?h30⟩) (Js7.out.2) ?_
        case h30 =>
          intro w hSw
          go_simp
          with_reducible rfl
        simp only [List.setIfInBounds_toArray, List.set_cons_zero, List.set_cons_succ]
        refine' take_at (i := 31) (d := 154) (v := _) rfl rfl (by kernel_rfl) (by kernel_rfl) (by kernel_rfl) (fun _ _ _ h => h) (Or.inl ⟨by rfl, ?h31⟩) (Js7.out.2) ?_
        case h31 =>
          intro w hSw
          go_simp
          with_reducible rfl
        simp only [List.setIfInBounds_toArray, List.set_cons_zero, List.set_cons_succ]
        refine' take_at (i := 34) (d := 157) (v := _) rfl rfl (by kernel_rfl) (by kernel_rfl) (by kernel_rfl) (fun _ _ _ h => h) (Or.inl ⟨by rfl, ?h34⟩) (Js7.out.2) ?_
        case h34 =>
          intro w hSw
          go_simp
          with_reducible rfl
        simp only [List.setIfInBounds_toArray, List.set_cons_zero, List.set_cons_succ]
        refine wpAnyH_ready (rs := [32]) (by kernel_rfl) (by simp) ?_
        refine AllReadyH.cons (o := _) rfl (fun KQ hKQ => ?_) AllReadyH.nil
        go_simp
        refine (Js7.out.1.one.put HS.out).mono ?_
        rintro e s8 ⟨vp, rfl, hvp, hM, hb⟩
        have Js8 : Hid (Bo15 LS LRe W s8 q r (1 + 2 * (k : Int) + 1 + 1) s6 s6 F6 G6 ∧ Below s0.heap.size s0 s8 ∧ Bs s8 vp (Sq.bytes s6)) := ⟨Js7.out.1.more HS.out hb, Js7.out.2.trans (hb.mono Js7.out.2.size), Bs.own hvp⟩
        obtain ⟨ap, cp9, hve, _, _⟩ := row_form hvp
        obtain ⟨LB9, hLB9⟩ : ∃ z, z = (Sq.bytes s6).length := ⟨_, rfl⟩
        rw [← hLB9] at hve
        subst hve
        clear hvp hM hLB9 Js7 hb
        simp only []
        refine hKQ.out _ _ Js8.out.2.1 (fun _ => ?_)
        refine wpAnyH_more (S' := fun w' => Below s8.heap.size s8 w') (fun w' h => Js8.out.2.1.trans (h.mono Js8.out.2.1.size)) _ _ _ _ ?_
        clear hKQ KQ
        refine' take_at (i := 33) (d := 156) (v := _) rfl rfl (by kernel_rfl) (by kernel_rfl) (by kernel_rfl) (fun _ _ _ h => h) (Or.inl ⟨by rfl, ?h33⟩) (Below.refl _ _) ?_
        case h33 =>
          intro w hSw
          have hcv := (Js8.out.2.2.below hSw).conv
          rw [← HZZ.out] at hcv
          go_simp
          with_reducible rfl
        simp only [List.setIfInBounds_toArray, List.set_cons_zero, List.set_cons_succ]
        refine wpAnyH_ready (rs := [35]) (by kernel_rfl) (by simp) ?_
        refine AllReadyH.cons (o := _) rfl (fun KQ hKQ => ?_) AllReadyH.nil
        go_simp
        refine (refPut_any15 r s6 G6 _ s8 Js8.out.1.two.ld Js8.out.1.two.fine).mono ?_
        rintro e s9 ⟨vp, rfl, hvp, hb⟩
        have Js9 : Hid (Bo15 LS LRe W s9 q r (1 + 2 * (k : Int) + 1 + 1) s6 s6 F6 G6 ∧ Bs s9 vp (Sq.bytes s6)) := ⟨Js8.out.1.more HS.out hb, hvp⟩
        obtain ⟨ap2, np2, cp2, rfl, hxp1, hxp2⟩ := hvp
        clear hxp1 hxp2 Js8
        simp only []
        refine hKQ.out _ _ hb (fun _ => ?_)
        refine wpAnyH_more (S' := fun w' => Below s9.heap.size s9 w') (fun w' h => hb.trans (h.mono hb.size)) _ _ _ _ ?_
        clear hKQ KQ hb
        refine' take_at (i := 36) (d := 159) (v := _) rfl rfl (by kernel_rfl) (by kernel_rfl) (by kernel_rfl) (fun _ _ _ h => h) (Or.inl ⟨by rfl, ?h36⟩) (Below.refl _ _) ?_
        case h36 =>
          intro w hSw
          have hcv := (Js9.out.2.below hSw).conv
          rw [← HZZ.out] at hcv
          go_simp
          with_reducible rfl
        simp only [List.setIfInBounds_toArray, List.set_cons_zero, List.set_cons_succ]
        refine' take_at (i := 37) (d := 160) (v := _) rfl rfl (by kernel_rfl) (by kernel_rfl) (by kernel_rfl) (fun _ _ _ h => h) (Or.inl ⟨by rfl, ?h37⟩) (Below.refl _ _) ?_
        case h37 =>
          intro w hSw
          go_simp
          with_reducible rfl
        simp only [List.setIfInBounds_toArray, List.set_cons_zero, List.set_cons_succ]
        refine' take_at (i := 38) (d := 161) (v := _) rfl rfl (by kernel_rfl) (by kernel_rfl) (by kernel_rfl) (fun _ _ _ h => h) (Or.inl ⟨by rfl, ?h38⟩) (Below.refl _ _) ?_
        case h38 =>
          intro w hSw
          go_simp
          with_reducible rfl
        simp only [List.setIfInBounds_toArray, List.set_cons_zero, List.set_cons_succ]
        refine wpAnyH_done (by kernel_rfl) ?_ _
        go_wp2
        go_roundw
        case rel => exact ⟨k + 1, q, s6, F6, G6, by omega, by go_num, rfl, by rw [show 1 + 2 * ((k + 1 : Nat) : Int) = (1 + 2 * (k : Int) + 1 + 1) by omega]; exact Js9.out.1⟩
        case measure => simp [intOf]; omega
      have hob2 : (x.op == 2) = false := by simp [ho2]
      by_cases ho3 : x.op = 3
      · have hob3 : (x.op == 3) = true := by simp [ho3]
        clear ho0 ho1 ho2 ho3
        obtain ⟨s6, hs6⟩ : ∃ s6, s6 = Sq.tick s := ⟨_, rfl⟩
        obtain ⟨ov, hov⟩ : ∃ ov, ov = Sq.over s := ⟨_, rfl⟩
        have HZ : Hid (s6 = Sq.tick s ∧ ov = Sq.over s ∧ ov.length ≤ 1000) := ⟨hs6, hov, by
          rw [hov]
          unfold Sq.over
          rw [List.length_map]
          have h1 := List.length_filter_le (Sq.ends (s.now + 1)) s.l
          have h2 := H4.out.1.one.fine.len64
          omega⟩
        clear hs6 hov
        go_wp2_with fail
        refine (H4.out.1.one.tick HS.out HKM.out.1 ov s6 HZ.out.2.1.symm HZ.out.1.symm).mono ?_
        rintro e w5 ⟨F6, va, rfl, hia, hoa, hM5, hv5⟩
        have H5 : Hid (Bo15 LS LRe W w5 q r (1 + 2 * (k : Int) + 1) s6 s F6 G ∧ Kept15 w5 (fun k => F6 k ∨ G k) ab (aac15 x) 40 ∧ Bi w5 va ov ∧ (∀ i, va.ownBlock = some i → ¬ G i)) := ⟨H4.out.1.first (LT := LRe) (m' := 1 + 2 * (k : Int) + 1) LRe.lt LRe.keep hM5 hv5 (by omega), H4.out.2.moved (hv5.orl15 G), hia, fun i hi e => by have := (hoa i hi).1; have := LRe.lt H4.out.1.two.ld e; omega⟩
        obtain ⟨a3, n3, c3, rfl, hn3, hc3⟩ := hia
        clear hM5 hv5 H4 a0 a1 a2 hoa hn3 hc3
        go_wp2_with fail
        refine (mineR_tick H5.out.1.two HKM.out.2 ov s6 HZ.out.2.1.symm HZ.out.1.symm).mono ?_
        rintro e w55 ⟨G6, vb, rfl, hib, hob9, hM6, hv6⟩
        have H55 : Hid (Bo15 LS LRe W w55 q r (1 + 2 * (k : Int) + 1 + 1) s6 s6 F6 G6 ∧ Kept15 w55 (fun k => F6 k ∨ G6 k) ab (aac15 x) 40 ∧ Bi w55 (.slice a3 n3 c3) ov ∧ Bi w55 vb ov) := ⟨H5.out.1.second HS.out hM6 hv6 (by omega), H5.out.2.1.moved (hv6.orr15 F6), H5.out.2.2.1.moved H5.out.2.2.2 hv6, hib⟩
        obtain ⟨a4, n4, c4, rfl, hn4, hc4⟩ := hib
        clear hM6 hv6 H5 hob9 hn4 hc4
        go_wp2_with fail
        refine (ids_any15 _ _ ov ov w55 H55.out.2.2.1 H55.out.2.2.2 HZ.out.2.2).mono ?_
        rintro e w6 ⟨rfl, hb⟩
        have hdt : decide (ov = ov) = true := decide_eq_true rfl
        rw [hdt]
        have H6 : Hid (Bo15 LS LRe W w6 q r (1 + 2 * (k : Int) + 1 + 1) s6 s6 F6 G6 ∧ Kept15 w6 (fun k => F6 k ∨ G6 k) ab (aac15 x) 40) := ⟨H55.out.1.more HS.out hb, H55.out.2.1.later hb⟩
        clear hb hdt H55
        obtain ⟨lb, hlb⟩ : ∃ b, b = Sq.has s6.l x.id := ⟨_, rfl⟩
        have HLB : Hid (lb = Sq.has s6.l x.id ∧ (Sq.all s6).length ≤ 1000) := ⟨hlb, by have h := H6.out.1.one.fine.len64; unfold Sq.all; simp; omega⟩
        obtain ⟨Z, hZ⟩ : ∃ Z : ByteArray, Z = ⟨(Sq.bytes s6).toArray⟩ := ⟨_, rfl⟩
        have HZZ : Hid (Z = ⟨(Sq.bytes s6).toArray⟩) := hZ
        have hzz : (Z.toList == Z.toList) = true := by simp
        have hzn : (Z.toList != Z.toList) = false := by simp
        have hnn : (s6.now != s6.now) = false := by simp
        have hll : (lb != lb) = false := by simp
        clear hZ hlb
        go_wp2
        refine wp_region_held_drew (S := fun w' => Below w6.heap.size w6 w') (by kernel_rfl) (Below.refl _ _).drew (fun _ => ?_)
        refine wpAnyH_more (S' := fun w' => Below w6.drew.heap.size w6.drew w') (fun w' h => below_drew h) _ _ _ _ ?_
        have Js0 : Hid (Bo15 LS LRe W w6.drew q r (1 + 2 * (k : Int) + 1 + 1) s6 s6 F6 G6 ∧ Below w6.drew.heap.size w6.drew w6.drew ∧ True) := ⟨H6.out.1.more HS.out (Below.refl _ _).drew, Below.refl _ _, trivial⟩
        have HCL : Hid (∀ w', Below w6.drew.heap.size w6.drew w' → w'.cell? ⟨r, 1, none⟩ = some (.int .i64 s6.now) ∧ w'.cell? ⟨ab, 1, none⟩ = some (.int .i64 x.id)) := by
          have hx : Cb w6.drew ab (aac15 x) 40 := H6.out.2.cb
          have hR := Js0.out.1.two.ld
          exact fun w' hb => by
            obtain ⟨vr, hvr, _⟩ := hR
            exact ⟨(hvr.later hb).blk.cell 1, (hx.below hb).cell 1⟩
        clear H6
        generalize w6.drew = s0 at *
        refine' take_at (i := 0) (d := 123) (v := _) rfl rfl (by kernel_rfl) (by kernel_rfl) (by kernel_rfl) (fun _ _ _ h => h) (Or.inl ⟨by rfl, ?h0⟩) (Js0.out.2.1) ?_
        case h0 =>
          intro w hSw
          go_simp
          with_reducible rfl
        simp only [List.setIfInBounds_toArray, List.set_cons_zero, List.set_cons_succ]
        refine' take_at (i := 1) (d := 124) (v := _) rfl rfl (by kernel_rfl) (by kernel_rfl) (by kernel_rfl) (fun _ _ _ h => h) (Or.inl ⟨by rfl, ?h1⟩) (Js0.out.2.1) ?_
        case h1 =>
          intro w hSw
          go_simp
          with_reducible rfl
        simp only [List.setIfInBounds_toArray, List.set_cons_zero, List.set_cons_succ]
        refine' take_at (i := 2) (d := 125) (v := _) rfl rfl (by kernel_rfl) (by kernel_rfl) (by kernel_rfl) (fun _ _ _ h => h) (Or.inl ⟨by rfl, ?h2⟩) (Js0.out.2.1) ?_
        case h2 =>
          intro w hSw
          go_simp
          with_reducible rfl
        simp only [List.setIfInBounds_toArray, List.set_cons_zero, List.set_cons_succ]
        refine' take_at (i := 3) (d := 126) (v := _) rfl rfl (by kernel_rfl) (by kernel_rfl) (by kernel_rfl) (fun _ _ _ h => h) (Or.inl ⟨by rfl, ?h3⟩) (Js0.out.2.1) ?_
        case h3 =>
          intro w hSw
          go_simp
          with_reducible rfl
        simp only [List.setIfInBounds_toArray, List.set_cons_zero, List.set_cons_succ]
        refine' take_at (i := 5) (d := 128) (v := _) rfl rfl (by kernel_rfl) (by kernel_rfl) (by kernel_rfl) (fun _ _ _ h => h) (Or.inl ⟨by rfl, ?h5⟩) (Js0.out.2.1) ?_
        case h5 =>
          intro w hSw
          go_simp
          with_reducible rfl
        simp only [List.setIfInBounds_toArray, List.set_cons_zero, List.set_cons_succ]
        refine wpAnyH_ready (rs := [4]) (by kernel_rfl) (by simp) ?_
        refine AllReadyH.cons (o := _) rfl (fun KQ hKQ => ?_) AllReadyH.nil
        go_simp
        refine (Js0.out.1.one.all HS.out).mono ?_
        rintro e s1 ⟨va, rfl, hia, hoa, hM, hb⟩
        have Js1 : Hid (Bo15 LS LRe W s1 q r (1 + 2 * (k : Int) + 1 + 1) s6 s6 F6 G6 ∧ Below s0.heap.size s0 s1 ∧ Bi s1 va (Sq.all s6)) := ⟨Js0.out.1.more HS.out hb, Js0.out.2.1.trans (hb.mono Js0.out.2.1.size), hia⟩
        obtain ⟨a3, n3, c3, rfl, hn3, hc3⟩ := hia
        clear Js0 hb hoa hM hn3 hc3
        simp only []
        refine hKQ.out _ _ Js1.out.2.1 (fun _ => ?_)
        clear hKQ KQ
        refine wpAnyH_ready (rs := [6]) (by kernel_rfl) (by simp) ?_
        refine AllReadyH.cons (o := _) rfl (fun KQ hKQ => ?_) AllReadyH.nil
        go_simp
        refine (refAll_any15 r s6 G6 _ s1 Js1.out.1.two.ld Js1.out.1.two.fine).mono ?_
        rintro e s2 ⟨vb, rfl, hib, hob9, hb⟩
        have Js2 : Hid (Bo15 LS LRe W s2 q r (1 + 2 * (k : Int) + 1 + 1) s6 s6 F6 G6 ∧ Below s0.heap.size s0 s2 ∧ Bi s2 (.slice a3 n3 c3) (Sq.all s6) ∧ Bi s2 vb (Sq.all s6)) := ⟨Js1.out.1.more HS.out hb, Js1.out.2.1.trans (hb.mono Js1.out.2.1.size), Js1.out.2.2.below hb, hib⟩
        obtain ⟨a4, n4, c4, rfl, hn4, hc4⟩ := hib
        clear Js1 hb hob9 hn4 hc4
        simp only []
        refine hKQ.out _ _ Js2.out.2.1 (fun _ => ?_)
        clear hKQ KQ
        refine wpAnyH_ready (rs := [7]) (by kernel_rfl) (by simp) ?_
        refine AllReadyH.cons (o := _) rfl (fun KQ hKQ => ?_) AllReadyH.nil
        go_simp
        refine (ids_any15 _ _ (Sq.all s6) (Sq.all s6) s2 Js2.out.2.2.1 Js2.out.2.2.2 HLB.out.2).mono ?_
        rintro e s3 ⟨rfl, hb⟩
        have Js3 : Hid (Bo15 LS LRe W s3 q r (1 + 2 * (k : Int) + 1 + 1) s6 s6 F6 G6 ∧ Below s0.heap.size s0 s3) := ⟨Js2.out.1.more HS.out hb, Js2.out.2.1.trans (hb.mono Js2.out.2.1.size)⟩
        have hdt : decide (Sq.all s6 = Sq.all s6) = true := decide_eq_true rfl
        rw [hdt]
        clear Js2 hb hdt
        simp only []
        refine hKQ.out _ _ Js3.out.2 (fun _ => ?_)
        clear hKQ KQ
        refine' take_at (i := 8) (d := 131) (v := _) rfl rfl (by kernel_rfl) (by kernel_rfl) (by kernel_rfl) (fun _ _ _ h => h) (Or.inl ⟨by rfl, ?h8⟩) (Js3.out.2) ?_
        case h8 =>
          intro w hSw
          go_simp
          with_reducible rfl
        simp only [List.setIfInBounds_toArray, List.set_cons_zero, List.set_cons_succ]
        refine' take_at (i := 9) (d := 132) (v := _) rfl rfl (by kernel_rfl) (by kernel_rfl) (by kernel_rfl) (fun _ _ _ h => h) (Or.inl ⟨by rfl, ?h9⟩) (Js3.out.2) ?_
        case h9 =>
          intro w hSw
          go_simp
          with_reducible rfl
        simp only [List.setIfInBounds_toArray, List.set_cons_zero, List.set_cons_succ]
        refine' take_at (i := 10) (d := 133) (v := _) rfl rfl (by kernel_rfl) (by kernel_rfl) (by kernel_rfl) (fun _ _ _ h => h) (Or.inl ⟨by rfl, ?h10⟩) (Js3.out.2) ?_
        case h10 =>
          intro w hSw
          go_simp
          with_reducible rfl
        simp only [List.setIfInBounds_toArray, List.set_cons_zero, List.set_cons_succ]
        refine' take_at (i := 11) (d := 134) (v := _) rfl rfl (by kernel_rfl) (by kernel_rfl) (by kernel_rfl) (fun _ _ _ h => h) (Or.inl ⟨by rfl, ?h11⟩) (Js3.out.2) ?_
        case h11 =>
          intro w hSw
          go_simp
          with_reducible rfl
        simp only [List.setIfInBounds_toArray, List.set_cons_zero, List.set_cons_succ]
        refine' take_at (i := 13) (d := 136) (v := _) rfl rfl (by kernel_rfl) (by kernel_rfl) (by kernel_rfl) (fun _ _ _ h => h) (Or.inl ⟨by rfl, ?h13⟩) (Js3.out.2) ?_
        case h13 =>
          intro w hSw
          obtain ⟨y1, y2⟩ := HCL.out w hSw
          go_simp
          with_reducible rfl
        simp only [List.setIfInBounds_toArray, List.set_cons_zero, List.set_cons_succ]
        refine' take_at (i := 14) (d := 137) (v := _) rfl rfl (by kernel_rfl) (by kernel_rfl) (by kernel_rfl) (fun _ _ _ h => h) (Or.inl ⟨by rfl, ?h14⟩) (Js3.out.2) ?_
        case h14 =>
          intro w hSw
          obtain ⟨y1, y2⟩ := HCL.out w hSw
          go_simp
          with_reducible rfl
        simp only [List.setIfInBounds_toArray, List.set_cons_zero, List.set_cons_succ]
        refine' take_at (i := 15) (d := 138) (v := _) rfl rfl (by kernel_rfl) (by kernel_rfl) (by kernel_rfl) (fun _ _ _ h => h) (Or.inl ⟨by rfl, ?h15⟩) (Js3.out.2) ?_
        case h15 =>
          intro w hSw
          obtain ⟨y1, y2⟩ := HCL.out w hSw
          go_simp
          with_reducible rfl
        simp only [List.setIfInBounds_toArray, List.set_cons_zero, List.set_cons_succ]
        refine' take_at (i := 16) (d := 139) (v := _) rfl rfl (by kernel_rfl) (by kernel_rfl) (by kernel_rfl) (fun _ _ _ h => h) (Or.inl ⟨by rfl, ?h16⟩) (Js3.out.2) ?_
        case h16 =>
          intro w hSw
          obtain ⟨y1, y2⟩ := HCL.out w hSw
          go_simp
          with_reducible rfl
        simp only [List.setIfInBounds_toArray, List.set_cons_zero, List.set_cons_succ]
        refine wpAnyH_ready (rs := [12]) (by kernel_rfl) (by simp) ?_
        refine AllReadyH.cons (o := _) rfl (fun KQ hKQ => ?_) AllReadyH.nil
        go_simp
        refine (Js3.out.1.one.now HS.out s6.now rfl).mono ?_
        rintro e s4 ⟨rfl, hM, hb⟩
        have Js4 : Hid (Bo15 LS LRe W s4 q r (1 + 2 * (k : Int) + 1 + 1) s6 s6 F6 G6 ∧ Below s0.heap.size s0 s4) := ⟨Js3.out.1.more HS.out hb, Js3.out.2.trans (hb.mono Js3.out.2.size)⟩
        clear Js3 hb hM
        simp only []
        refine hKQ.out _ _ Js4.out.2 (fun _ => ?_)
        clear hKQ KQ
        refine' take_at (i := 17) (d := 140) (v := _) rfl rfl (by kernel_rfl) (by kernel_rfl) (by kernel_rfl) (fun _ _ _ h => h) (Or.inl ⟨by rfl, ?h17⟩) (Js4.out.2) ?_
        case h17 =>
          intro w hSw
          go_simp
          with_reducible rfl
        simp only [List.setIfInBounds_toArray, List.set_cons_zero, List.set_cons_succ]
        refine' take_at (i := 18) (d := 141) (v := _) rfl rfl (by kernel_rfl) (by kernel_rfl) (by kernel_rfl) (fun _ _ _ h => h) (Or.inl ⟨by rfl, ?h18⟩) (Js4.out.2) ?_
        case h18 =>
          intro w hSw
          go_simp
          with_reducible rfl
        simp only [List.setIfInBounds_toArray, List.set_cons_zero, List.set_cons_succ]
        refine' take_at (i := 19) (d := 142) (v := _) rfl rfl (by kernel_rfl) (by kernel_rfl) (by kernel_rfl) (fun _ _ _ h => h) (Or.inl ⟨by rfl, ?h19⟩) (Js4.out.2) ?_
        case h19 =>
          intro w hSw
          go_simp
          with_reducible rfl
        simp only [List.setIfInBounds_toArray, List.set_cons_zero, List.set_cons_succ]
        refine' take_at (i := 20) (d := 143) (v := _) rfl rfl (by kernel_rfl) (by kernel_rfl) (by kernel_rfl) (fun _ _ _ h => h) (Or.inl ⟨by rfl, ?h20⟩) (Js4.out.2) ?_
        case h20 =>
          intro w hSw
          go_simp
          with_reducible rfl
        simp only [List.setIfInBounds_toArray, List.set_cons_zero, List.set_cons_succ]
        refine' take_at (i := 24) (d := 147) (v := _) rfl rfl (by kernel_rfl) (by kernel_rfl) (by kernel_rfl) (fun _ _ _ h => h) (Or.inl ⟨by rfl, ?h24⟩) (Js4.out.2) ?_
        case h24 =>
          intro w hSw
          go_simp
          with_reducible rfl
        simp only [List.setIfInBounds_toArray, List.set_cons_zero, List.set_cons_succ]
        refine' take_at (i := 21) (d := 144) (v := _) rfl rfl (by kernel_rfl) (by kernel_rfl) (by kernel_rfl) (fun _ _ _ h => h) (Or.inl ⟨by rfl, ?h21⟩) (Js4.out.2) ?_
        case h21 =>
          intro w hSw
          obtain ⟨y1, y2⟩ := HCL.out w hSw
          go_simp
          with_reducible rfl
        simp only [List.setIfInBounds_toArray, List.set_cons_zero, List.set_cons_succ]
        refine' take_at (i := 22) (d := 145) (v := _) rfl rfl (by kernel_rfl) (by kernel_rfl) (by kernel_rfl) (fun _ _ _ h => h) (Or.inl ⟨by rfl, ?h22⟩) (Js4.out.2) ?_
        case h22 =>
          intro w hSw
          obtain ⟨y1, y2⟩ := HCL.out w hSw
          go_simp
          with_reducible rfl
        simp only [List.setIfInBounds_toArray, List.set_cons_zero, List.set_cons_succ]
        refine' take_at (i := 25) (d := 148) (v := _) rfl rfl (by kernel_rfl) (by kernel_rfl) (by kernel_rfl) (fun _ _ _ h => h) (Or.inl ⟨by rfl, ?h25⟩) (Js4.out.2) ?_
        case h25 =>
          intro w hSw
          obtain ⟨y1, y2⟩ := HCL.out w hSw
          go_simp
          with_reducible rfl
        simp only [List.setIfInBounds_toArray, List.set_cons_zero, List.set_cons_succ]
        refine' take_at (i := 26) (d := 149) (v := _) rfl rfl (by kernel_rfl) (by kernel_rfl) (by kernel_rfl) (fun _ _ _ h => h) (Or.inl ⟨by rfl, ?h26⟩) (Js4.out.2) ?_
        case h26 =>
          intro w hSw
          obtain ⟨y1, y2⟩ := HCL.out w hSw
          go_simp
          with_reducible rfl
        simp only [List.setIfInBounds_toArray, List.set_cons_zero, List.set_cons_succ]
        refine wpAnyH_ready (rs := [23]) (by kernel_rfl) (by simp) ?_
        refine AllReadyH.cons (o := _) rfl (fun KQ hKQ => ?_) AllReadyH.nil
        go_simp
        refine (Js4.out.1.one.live HS.out x.id lb HLB.out.1.symm).mono ?_
        rintro e s5 ⟨rfl, hM, hb⟩
        have Js5 : Hid (Bo15 LS LRe W s5 q r (1 + 2 * (k : Int) + 1 + 1) s6 s6 F6 G6 ∧ Below s0.heap.size s0 s5) := ⟨Js4.out.1.more HS.out hb, Js4.out.2.trans (hb.mono Js4.out.2.size)⟩
        clear Js4 hb hM
        simp only []
        refine hKQ.out _ _ Js5.out.2 (fun _ => ?_)
        clear hKQ KQ
        refine wpAnyH_ready (rs := [27]) (by kernel_rfl) (by simp) ?_
        refine AllReadyH.cons (o := _) rfl (fun KQ hKQ => ?_) AllReadyH.nil
        go_simp
        refine (refLive_any15 r s6 G6 _ x.id s5 Js5.out.1.two.ld Js5.out.1.two.fine).mono ?_
        rintro e s7 ⟨rfl, hb⟩
        have Js7 : Hid (Bo15 LS LRe W s7 q r (1 + 2 * (k : Int) + 1 + 1) s6 s6 F6 G6 ∧ Below s0.heap.size s0 s7) := ⟨Js5.out.1.more HS.out hb, Js5.out.2.trans (hb.mono Js5.out.2.size)⟩
        rw [← HLB.out.1]
        clear Js5 hb
        simp only []
        refine hKQ.out _ _ Js7.out.2 (fun _ => ?_)
        clear hKQ KQ
        refine' take_at (i := 28) (d := 151) (v := _) rfl rfl (by kernel_rfl) (by kernel_rfl) (by kernel_rfl) (fun _ _ _ h => h) (Or.inl ⟨by rfl, ?h28⟩) (Js7.out.2) ?_
        case h28 =>
          intro w hSw
          go_simp
          with_reducible rfl
        simp only [List.setIfInBounds_toArray, List.set_cons_zero, List.set_cons_succ]
        refine' take_at (i := 29) (d := 152) (v := _) rfl rfl (by kernel_rfl) (by kernel_rfl) (by kernel_rfl) (fun _ _ _ h => h) (Or.inl ⟨by rfl, ?h29⟩) (Js7.out.2) ?_
        case h29 =>
          intro w hSw
          go_simp
          with_reducible rfl
        simp only [List.setIfInBounds_toArray, List.set_cons_zero, List.set_cons_succ]
        refine' take_at (i := 30) (d := 153) (v := _) rfl rfl (by kernel_rfl) (by kernel_rfl) (by kernel_rfl) (fun _ _ _ h => h) (Or.inl ⟨by rfl, ?h30⟩) (Js7.out.2) ?_
        case h30 =>
          intro w hSw
          go_simp
          with_reducible rfl
        simp only [List.setIfInBounds_toArray, List.set_cons_zero, List.set_cons_succ]
        refine' take_at (i := 31) (d := 154) (v := _) rfl rfl (by kernel_rfl) (by kernel_rfl) (by kernel_rfl) (fun _ _ _ h => h) (Or.inl ⟨by rfl, ?h31⟩) (Js7.out.2) ?_
        case h31 =>
          intro w hSw
          go_simp
          with_reducible rfl
        simp only [List.setIfInBounds_toArray, List.set_cons_zero, List.set_cons_succ]
        refine' take_at (i := 34) (d := 157) (v := _) rfl rfl (by kernel_rfl) (by kernel_rfl) (by kernel_rfl) (fun _ _ _ h => h) (Or.inl ⟨by rfl, ?h34⟩) (Js7.out.2) ?_
        case h34 =>
          intro w hSw
          go_simp
          with_reducible rfl
        simp only [List.setIfInBounds_toArray, List.set_cons_zero, List.set_cons_succ]
        refine wpAnyH_ready (rs := [32]) (by kernel_rfl) (by simp) ?_
        refine AllReadyH.cons (o := _) rfl (fun KQ hKQ => ?_) AllReadyH.nil
        go_simp
        refine (Js7.out.1.one.put HS.out).mono ?_
        rintro e s8 ⟨vp, rfl, hvp, hM, hb⟩
        have Js8 : Hid (Bo15 LS LRe W s8 q r (1 + 2 * (k : Int) + 1 + 1) s6 s6 F6 G6 ∧ Below s0.heap.size s0 s8 ∧ Bs s8 vp (Sq.bytes s6)) := ⟨Js7.out.1.more HS.out hb, Js7.out.2.trans (hb.mono Js7.out.2.size), Bs.own hvp⟩
        obtain ⟨ap, cp9, hve, _, _⟩ := row_form hvp
        obtain ⟨LB9, hLB9⟩ : ∃ z, z = (Sq.bytes s6).length := ⟨_, rfl⟩
        rw [← hLB9] at hve
        subst hve
        clear hvp hM hLB9 Js7 hb
        simp only []
        refine hKQ.out _ _ Js8.out.2.1 (fun _ => ?_)
        refine wpAnyH_more (S' := fun w' => Below s8.heap.size s8 w') (fun w' h => Js8.out.2.1.trans (h.mono Js8.out.2.1.size)) _ _ _ _ ?_
        clear hKQ KQ
        refine' take_at (i := 33) (d := 156) (v := _) rfl rfl (by kernel_rfl) (by kernel_rfl) (by kernel_rfl) (fun _ _ _ h => h) (Or.inl ⟨by rfl, ?h33⟩) (Below.refl _ _) ?_
        case h33 =>
          intro w hSw
          have hcv := (Js8.out.2.2.below hSw).conv
          rw [← HZZ.out] at hcv
          go_simp
          with_reducible rfl
        simp only [List.setIfInBounds_toArray, List.set_cons_zero, List.set_cons_succ]
        refine wpAnyH_ready (rs := [35]) (by kernel_rfl) (by simp) ?_
        refine AllReadyH.cons (o := _) rfl (fun KQ hKQ => ?_) AllReadyH.nil
        go_simp
        refine (refPut_any15 r s6 G6 _ s8 Js8.out.1.two.ld Js8.out.1.two.fine).mono ?_
        rintro e s9 ⟨vp, rfl, hvp, hb⟩
        have Js9 : Hid (Bo15 LS LRe W s9 q r (1 + 2 * (k : Int) + 1 + 1) s6 s6 F6 G6 ∧ Bs s9 vp (Sq.bytes s6)) := ⟨Js8.out.1.more HS.out hb, hvp⟩
        obtain ⟨ap2, np2, cp2, rfl, hxp1, hxp2⟩ := hvp
        clear hxp1 hxp2 Js8
        simp only []
        refine hKQ.out _ _ hb (fun _ => ?_)
        refine wpAnyH_more (S' := fun w' => Below s9.heap.size s9 w') (fun w' h => hb.trans (h.mono hb.size)) _ _ _ _ ?_
        clear hKQ KQ hb
        refine' take_at (i := 36) (d := 159) (v := _) rfl rfl (by kernel_rfl) (by kernel_rfl) (by kernel_rfl) (fun _ _ _ h => h) (Or.inl ⟨by rfl, ?h36⟩) (Below.refl _ _) ?_
        case h36 =>
          intro w hSw
          have hcv := (Js9.out.2.below hSw).conv
          rw [← HZZ.out] at hcv
          go_simp
          with_reducible rfl
        simp only [List.setIfInBounds_toArray, List.set_cons_zero, List.set_cons_succ]
        refine' take_at (i := 37) (d := 160) (v := _) rfl rfl (by kernel_rfl) (by kernel_rfl) (by kernel_rfl) (fun _ _ _ h => h) (Or.inl ⟨by rfl, ?h37⟩) (Below.refl _ _) ?_
        case h37 =>
          intro w hSw
          go_simp
          with_reducible rfl
        simp only [List.setIfInBounds_toArray, List.set_cons_zero, List.set_cons_succ]
        refine' take_at (i := 38) (d := 161) (v := _) rfl rfl (by kernel_rfl) (by kernel_rfl) (by kernel_rfl) (fun _ _ _ h => h) (Or.inl ⟨by rfl, ?h38⟩) (Below.refl _ _) ?_
        case h38 =>
          intro w hSw
          go_simp
          with_reducible rfl
        simp only [List.setIfInBounds_toArray, List.set_cons_zero, List.set_cons_succ]
        refine wpAnyH_done (by kernel_rfl) ?_ _
        go_wp2
        go_roundw
        case rel => exact ⟨k + 1, q, s6, F6, G6, by omega, by go_num, rfl, by rw [show 1 + 2 * ((k + 1 : Nat) : Int) = (1 + 2 * (k : Int) + 1 + 1) by omega]; exact Js9.out.1⟩
        case measure => simp [intOf]; omega
      · have hob3 : (x.op == 3) = false := by simp [ho3]
        clear ho0 ho1 ho2 ho3
        have HGB : Hid (Sq.get (Sq.bytes s) = some s ∧ (Sq.bytes s).length ≤ 2000) := ⟨Sq.get_bytes H4.out.1.one.fine (by have := HKM.out; omega), by have := Sq.bytes_len H4.out.1.one.fine; omega⟩
        go_wp2_with fail
        refine (H4.out.1.one.put HS.out).mono ?_
        rintro e w5 ⟨vp, rfl, hvp, hM5, hb5⟩
        have H5 : Hid (Bo15 LS LRe W w5 q r (1 + 2 * (k : Int)) s s F G ∧ Kept15 w5 (fun k => F k ∨ G k) ab (aac15 x) 40 ∧ Bs w5 vp (Sq.bytes s)) := ⟨H4.out.1.more HS.out hb5, H4.out.2.later hb5, Bs.own hvp⟩
        obtain ⟨ap5, cp5, hve5, _, _⟩ := row_form hvp
        obtain ⟨LB5, hLB5⟩ : ∃ z, z = (Sq.bytes s).length := ⟨_, rfl⟩
        rw [← hLB5] at hve5
        subst hve5
        clear hM5 hb5 hvp hLB5 H4 a0 a1 a2
        go_wp2_with fail
        refine (mine15_get HS.out H5.out.1.one.below _ (Sq.bytes s) H5.out.2.2 HGB.out.2 s HGB.out.1).mono ?_
        rintro e w6 ⟨q6, F6, rfl, hM6, hF6, hb6⟩
        obtain ⟨s6, hs6⟩ : ∃ s6, s6 = s := ⟨_, rfl⟩
        obtain ⟨G6, hG6⟩ : ∃ G6, G6 = G := ⟨_, rfl⟩
        have H6 : Hid (Bo15 LS LRe W w6 q6 r (1 + 2 * (k : Int) + 1 + 1) s6 s6 F6 G6 ∧ Kept15 w6 (fun k => F6 k ∨ G6 k) ab (aac15 x) 40) := by
          rw [hs6, hG6]
          have h := H5.out.1.more HS.out hb6
          refine ⟨⟨⟨hM6.ld, h.one.fine.mono (by omega), hM6.hi, hM6.below⟩, h.two.mono (by omega), fun j hj e => by have := LRe.lt H5.out.1.two.ld e; have := hF6 j hj; omega⟩, H5.out.2.1.cb.below hb6, fun e => ?_⟩
          rcases e with e | e
          · have := hF6 _ e
            have := H5.out.2.1.cb.lt
            omega
          · exact H5.out.2.1.off (Or.inr e)
        clear hM6 hF6 hb6 H5 hs6 hG6
        obtain ⟨lb, hlb⟩ : ∃ b, b = Sq.has s6.l x.id := ⟨_, rfl⟩
        have HLB : Hid (lb = Sq.has s6.l x.id ∧ (Sq.all s6).length ≤ 1000) := ⟨hlb, by have h := H6.out.1.one.fine.len64; unfold Sq.all; simp; omega⟩
        obtain ⟨Z, hZ⟩ : ∃ Z : ByteArray, Z = ⟨(Sq.bytes s6).toArray⟩ := ⟨_, rfl⟩
        have HZZ : Hid (Z = ⟨(Sq.bytes s6).toArray⟩) := hZ
        have hzz : (Z.toList == Z.toList) = true := by simp
        have hzn : (Z.toList != Z.toList) = false := by simp
        have hnn : (s6.now != s6.now) = false := by simp
        have hll : (lb != lb) = false := by simp
        clear hZ hlb
        go_wp2
        refine wp_region_held_drew (S := fun w' => Below w6.heap.size w6 w') (by kernel_rfl) (Below.refl _ _).drew (fun _ => ?_)
        refine wpAnyH_more (S' := fun w' => Below w6.drew.heap.size w6.drew w') (fun w' h => below_drew h) _ _ _ _ ?_
        have Js0 : Hid (Bo15 LS LRe W w6.drew q6 r (1 + 2 * (k : Int) + 1 + 1) s6 s6 F6 G6 ∧ Below w6.drew.heap.size w6.drew w6.drew ∧ True) := ⟨H6.out.1.more HS.out (Below.refl _ _).drew, Below.refl _ _, trivial⟩
        have HCL : Hid (∀ w', Below w6.drew.heap.size w6.drew w' → w'.cell? ⟨r, 1, none⟩ = some (.int .i64 s6.now) ∧ w'.cell? ⟨ab, 1, none⟩ = some (.int .i64 x.id)) := by
          have hx : Cb w6.drew ab (aac15 x) 40 := H6.out.2.cb
          have hR := Js0.out.1.two.ld
          exact fun w' hb => by
            obtain ⟨vr, hvr, _⟩ := hR
            exact ⟨(hvr.later hb).blk.cell 1, (hx.below hb).cell 1⟩
        clear H6
        generalize w6.drew = s0 at *
        refine' take_at (i := 0) (d := 123) (v := _) rfl rfl (by kernel_rfl) (by kernel_rfl) (by kernel_rfl) (fun _ _ _ h => h) (Or.inl ⟨by rfl, ?h0⟩) (Js0.out.2.1) ?_
        case h0 =>
          intro w hSw
          go_simp
          with_reducible rfl
        simp only [List.setIfInBounds_toArray, List.set_cons_zero, List.set_cons_succ]
        refine' take_at (i := 1) (d := 124) (v := _) rfl rfl (by kernel_rfl) (by kernel_rfl) (by kernel_rfl) (fun _ _ _ h => h) (Or.inl ⟨by rfl, ?h1⟩) (Js0.out.2.1) ?_
        case h1 =>
          intro w hSw
          go_simp
          with_reducible rfl
        simp only [List.setIfInBounds_toArray, List.set_cons_zero, List.set_cons_succ]
        refine' take_at (i := 2) (d := 125) (v := _) rfl rfl (by kernel_rfl) (by kernel_rfl) (by kernel_rfl) (fun _ _ _ h => h) (Or.inl ⟨by rfl, ?h2⟩) (Js0.out.2.1) ?_
        case h2 =>
          intro w hSw
          go_simp
          with_reducible rfl
        simp only [List.setIfInBounds_toArray, List.set_cons_zero, List.set_cons_succ]
        refine' take_at (i := 3) (d := 126) (v := _) rfl rfl (by kernel_rfl) (by kernel_rfl) (by kernel_rfl) (fun _ _ _ h => h) (Or.inl ⟨by rfl, ?h3⟩) (Js0.out.2.1) ?_
        case h3 =>
          intro w hSw
          go_simp
          with_reducible rfl
        simp only [List.setIfInBounds_toArray, List.set_cons_zero, List.set_cons_succ]
        refine' take_at (i := 5) (d := 128) (v := _) rfl rfl (by kernel_rfl) (by kernel_rfl) (by kernel_rfl) (fun _ _ _ h => h) (Or.inl ⟨by rfl, ?h5⟩) (Js0.out.2.1) ?_
        case h5 =>
          intro w hSw
          go_simp
          with_reducible rfl
        simp only [List.setIfInBounds_toArray, List.set_cons_zero, List.set_cons_succ]
        refine wpAnyH_ready (rs := [4]) (by kernel_rfl) (by simp) ?_
        refine AllReadyH.cons (o := _) rfl (fun KQ hKQ => ?_) AllReadyH.nil
        go_simp
        refine (Js0.out.1.one.all HS.out).mono ?_
        rintro e s1 ⟨va, rfl, hia, hoa, hM, hb⟩
        have Js1 : Hid (Bo15 LS LRe W s1 q6 r (1 + 2 * (k : Int) + 1 + 1) s6 s6 F6 G6 ∧ Below s0.heap.size s0 s1 ∧ Bi s1 va (Sq.all s6)) := ⟨Js0.out.1.more HS.out hb, Js0.out.2.1.trans (hb.mono Js0.out.2.1.size), hia⟩
        obtain ⟨a3, n3, c3, rfl, hn3, hc3⟩ := hia
        clear Js0 hb hoa hM hn3 hc3
        simp only []
        refine hKQ.out _ _ Js1.out.2.1 (fun _ => ?_)
        clear hKQ KQ
        refine wpAnyH_ready (rs := [6]) (by kernel_rfl) (by simp) ?_
        refine AllReadyH.cons (o := _) rfl (fun KQ hKQ => ?_) AllReadyH.nil
        go_simp
        refine (refAll_any15 r s6 G6 _ s1 Js1.out.1.two.ld Js1.out.1.two.fine).mono ?_
        rintro e s2 ⟨vb, rfl, hib, hob9, hb⟩
        have Js2 : Hid (Bo15 LS LRe W s2 q6 r (1 + 2 * (k : Int) + 1 + 1) s6 s6 F6 G6 ∧ Below s0.heap.size s0 s2 ∧ Bi s2 (.slice a3 n3 c3) (Sq.all s6) ∧ Bi s2 vb (Sq.all s6)) := ⟨Js1.out.1.more HS.out hb, Js1.out.2.1.trans (hb.mono Js1.out.2.1.size), Js1.out.2.2.below hb, hib⟩
        obtain ⟨a4, n4, c4, rfl, hn4, hc4⟩ := hib
        clear Js1 hb hob9 hn4 hc4
        simp only []
        refine hKQ.out _ _ Js2.out.2.1 (fun _ => ?_)
        clear hKQ KQ
        refine wpAnyH_ready (rs := [7]) (by kernel_rfl) (by simp) ?_
        refine AllReadyH.cons (o := _) rfl (fun KQ hKQ => ?_) AllReadyH.nil
        go_simp
        refine (ids_any15 _ _ (Sq.all s6) (Sq.all s6) s2 Js2.out.2.2.1 Js2.out.2.2.2 HLB.out.2).mono ?_
        rintro e s3 ⟨rfl, hb⟩
        have Js3 : Hid (Bo15 LS LRe W s3 q6 r (1 + 2 * (k : Int) + 1 + 1) s6 s6 F6 G6 ∧ Below s0.heap.size s0 s3) := ⟨Js2.out.1.more HS.out hb, Js2.out.2.1.trans (hb.mono Js2.out.2.1.size)⟩
        have hdt : decide (Sq.all s6 = Sq.all s6) = true := decide_eq_true rfl
        rw [hdt]
        clear Js2 hb hdt
        simp only []
        refine hKQ.out _ _ Js3.out.2 (fun _ => ?_)
        clear hKQ KQ
        refine' take_at (i := 8) (d := 131) (v := _) rfl rfl (by kernel_rfl) (by kernel_rfl) (by kernel_rfl) (fun _ _ _ h => h) (Or.inl ⟨by rfl, ?h8⟩) (Js3.out.2) ?_
        case h8 =>
          intro w hSw
          go_simp
          with_reducible rfl
        simp only [List.setIfInBounds_toArray, List.set_cons_zero, List.set_cons_succ]
        refine' take_at (i := 9) (d := 132) (v := _) rfl rfl (by kernel_rfl) (by kernel_rfl) (by kernel_rfl) (fun _ _ _ h => h) (Or.inl ⟨by rfl, ?h9⟩) (Js3.out.2) ?_
        case h9 =>
          intro w hSw
          go_simp
          with_reducible rfl
        simp only [List.setIfInBounds_toArray, List.set_cons_zero, List.set_cons_succ]
        refine' take_at (i := 10) (d := 133) (v := _) rfl rfl (by kernel_rfl) (by kernel_rfl) (by kernel_rfl) (fun _ _ _ h => h) (Or.inl ⟨by rfl, ?h10⟩) (Js3.out.2) ?_
        case h10 =>
          intro w hSw
          go_simp
          with_reducible rfl
        simp only [List.setIfInBounds_toArray, List.set_cons_zero, List.set_cons_succ]
        refine' take_at (i := 11) (d := 134) (v := _) rfl rfl (by kernel_rfl) (by kernel_rfl) (by kernel_rfl) (fun _ _ _ h => h) (Or.inl ⟨by rfl, ?h11⟩) (Js3.out.2) ?_
        case h11 =>
          intro w hSw
          go_simp
          with_reducible rfl
        simp only [List.setIfInBounds_toArray, List.set_cons_zero, List.set_cons_succ]
        refine' take_at (i := 13) (d := 136) (v := _) rfl rfl (by kernel_rfl) (by kernel_rfl) (by kernel_rfl) (fun _ _ _ h => h) (Or.inl ⟨by rfl, ?h13⟩) (Js3.out.2) ?_
        case h13 =>
          intro w hSw
          obtain ⟨y1, y2⟩ := HCL.out w hSw
          go_simp
          with_reducible rfl
        simp only [List.setIfInBounds_toArray, List.set_cons_zero, List.set_cons_succ]
        refine' take_at (i := 14) (d := 137) (v := _) rfl rfl (by kernel_rfl) (by kernel_rfl) (by kernel_rfl) (fun _ _ _ h => h) (Or.inl ⟨by rfl, ?h14⟩) (Js3.out.2) ?_
        case h14 =>
          intro w hSw
          obtain ⟨y1, y2⟩ := HCL.out w hSw
          go_simp
          with_reducible rfl
        simp only [List.setIfInBounds_toArray, List.set_cons_zero, List.set_cons_succ]
        refine' take_at (i := 15) (d := 138) (v := _) rfl rfl (by kernel_rfl) (by kernel_rfl) (by kernel_rfl) (fun _ _ _ h => h) (Or.inl ⟨by rfl, ?h15⟩) (Js3.out.2) ?_
        case h15 =>
          intro w hSw
          obtain ⟨y1, y2⟩ := HCL.out w hSw
          go_simp
          with_reducible rfl
        simp only [List.setIfInBounds_toArray, List.set_cons_zero, List.set_cons_succ]
        refine' take_at (i := 16) (d := 139) (v := _) rfl rfl (by kernel_rfl) (by kernel_rfl) (by kernel_rfl) (fun _ _ _ h => h) (Or.inl ⟨by rfl, ?h16⟩) (Js3.out.2) ?_
        case h16 =>
          intro w hSw
          obtain ⟨y1, y2⟩ := HCL.out w hSw
          go_simp
          with_reducible rfl
        simp only [List.setIfInBounds_toArray, List.set_cons_zero, List.set_cons_succ]
        refine wpAnyH_ready (rs := [12]) (by kernel_rfl) (by simp) ?_
        refine AllReadyH.cons (o := _) rfl (fun KQ hKQ => ?_) AllReadyH.nil
        go_simp
        refine (Js3.out.1.one.now HS.out s6.now rfl).mono ?_
        rintro e s4 ⟨rfl, hM, hb⟩
        have Js4 : Hid (Bo15 LS LRe W s4 q6 r (1 + 2 * (k : Int) + 1 + 1) s6 s6 F6 G6 ∧ Below s0.heap.size s0 s4) := ⟨Js3.out.1.more HS.out hb, Js3.out.2.trans (hb.mono Js3.out.2.size)⟩
        clear Js3 hb hM
        simp only []
        refine hKQ.out _ _ Js4.out.2 (fun _ => ?_)
        clear hKQ KQ
        refine' take_at (i := 17) (d := 140) (v := _) rfl rfl (by kernel_rfl) (by kernel_rfl) (by kernel_rfl) (fun _ _ _ h => h) (Or.inl ⟨by rfl, ?h17⟩) (Js4.out.2) ?_
        case h17 =>
          intro w hSw
          go_simp
          with_reducible rfl
        simp only [List.setIfInBounds_toArray, List.set_cons_zero, List.set_cons_succ]
        refine' take_at (i := 18) (d := 141) (v := _) rfl rfl (by kernel_rfl) (by kernel_rfl) (by kernel_rfl) (fun _ _ _ h => h) (Or.inl ⟨by rfl, ?h18⟩) (Js4.out.2) ?_
        case h18 =>
          intro w hSw
          go_simp
          with_reducible rfl
        simp only [List.setIfInBounds_toArray, List.set_cons_zero, List.set_cons_succ]
        refine' take_at (i := 19) (d := 142) (v := _) rfl rfl (by kernel_rfl) (by kernel_rfl) (by kernel_rfl) (fun _ _ _ h => h) (Or.inl ⟨by rfl, ?h19⟩) (Js4.out.2) ?_
        case h19 =>
          intro w hSw
          go_simp
          with_reducible rfl
        simp only [List.setIfInBounds_toArray, List.set_cons_zero, List.set_cons_succ]
        refine' take_at (i := 20) (d := 143) (v := _) rfl rfl (by kernel_rfl) (by kernel_rfl) (by kernel_rfl) (fun _ _ _ h => h) (Or.inl ⟨by rfl, ?h20⟩) (Js4.out.2) ?_
        case h20 =>
          intro w hSw
          go_simp
          with_reducible rfl
        simp only [List.setIfInBounds_toArray, List.set_cons_zero, List.set_cons_succ]
        refine' take_at (i := 24) (d := 147) (v := _) rfl rfl (by kernel_rfl) (by kernel_rfl) (by kernel_rfl) (fun _ _ _ h => h) (Or.inl ⟨by rfl, ?h24⟩) (Js4.out.2) ?_
        case h24 =>
          intro w hSw
          go_simp
          with_reducible rfl
        simp only [List.setIfInBounds_toArray, List.set_cons_zero, List.set_cons_succ]
        refine' take_at (i := 21) (d := 144) (v := _) rfl rfl (by kernel_rfl) (by kernel_rfl) (by kernel_rfl) (fun _ _ _ h => h) (Or.inl ⟨by rfl, ?h21⟩) (Js4.out.2) ?_
        case h21 =>
          intro w hSw
          obtain ⟨y1, y2⟩ := HCL.out w hSw
          go_simp
          with_reducible rfl
        simp only [List.setIfInBounds_toArray, List.set_cons_zero, List.set_cons_succ]
        refine' take_at (i := 22) (d := 145) (v := _) rfl rfl (by kernel_rfl) (by kernel_rfl) (by kernel_rfl) (fun _ _ _ h => h) (Or.inl ⟨by rfl, ?h22⟩) (Js4.out.2) ?_
        case h22 =>
          intro w hSw
          obtain ⟨y1, y2⟩ := HCL.out w hSw
          go_simp
          with_reducible rfl
        simp only [List.setIfInBounds_toArray, List.set_cons_zero, List.set_cons_succ]
        refine' take_at (i := 25) (d := 148) (v := _) rfl rfl (by kernel_rfl) (by kernel_rfl) (by kernel_rfl) (fun _ _ _ h => h) (Or.inl ⟨by rfl, ?h25⟩) (Js4.out.2) ?_
        case h25 =>
          intro w hSw
          obtain ⟨y1, y2⟩ := HCL.out w hSw
          go_simp
          with_reducible rfl
        simp only [List.setIfInBounds_toArray, List.set_cons_zero, List.set_cons_succ]
        refine' take_at (i := 26) (d := 149) (v := _) rfl rfl (by kernel_rfl) (by kernel_rfl) (by kernel_rfl) (fun _ _ _ h => h) (Or.inl ⟨by rfl, ?h26⟩) (Js4.out.2) ?_
        case h26 =>
          intro w hSw
          obtain ⟨y1, y2⟩ := HCL.out w hSw
          go_simp
          with_reducible rfl
        simp only [List.setIfInBounds_toArray, List.set_cons_zero, List.set_cons_succ]
        refine wpAnyH_ready (rs := [23]) (by kernel_rfl) (by simp) ?_
        refine AllReadyH.cons (o := _) rfl (fun KQ hKQ => ?_) AllReadyH.nil
        go_simp
        refine (Js4.out.1.one.live HS.out x.id lb HLB.out.1.symm).mono ?_
        rintro e s5 ⟨rfl, hM, hb⟩
        have Js5 : Hid (Bo15 LS LRe W s5 q6 r (1 + 2 * (k : Int) + 1 + 1) s6 s6 F6 G6 ∧ Below s0.heap.size s0 s5) := ⟨Js4.out.1.more HS.out hb, Js4.out.2.trans (hb.mono Js4.out.2.size)⟩
        clear Js4 hb hM
        simp only []
        refine hKQ.out _ _ Js5.out.2 (fun _ => ?_)
        clear hKQ KQ
        refine wpAnyH_ready (rs := [27]) (by kernel_rfl) (by simp) ?_
        refine AllReadyH.cons (o := _) rfl (fun KQ hKQ => ?_) AllReadyH.nil
        go_simp
        refine (refLive_any15 r s6 G6 _ x.id s5 Js5.out.1.two.ld Js5.out.1.two.fine).mono ?_
        rintro e s7 ⟨rfl, hb⟩
        have Js7 : Hid (Bo15 LS LRe W s7 q6 r (1 + 2 * (k : Int) + 1 + 1) s6 s6 F6 G6 ∧ Below s0.heap.size s0 s7) := ⟨Js5.out.1.more HS.out hb, Js5.out.2.trans (hb.mono Js5.out.2.size)⟩
        rw [← HLB.out.1]
        clear Js5 hb
        simp only []
        refine hKQ.out _ _ Js7.out.2 (fun _ => ?_)
        clear hKQ KQ
        refine' take_at (i := 28) (d := 151) (v := _) rfl rfl (by kernel_rfl) (by kernel_rfl) (by kernel_rfl) (fun _ _ _ h => h) (Or.inl ⟨by rfl, ?h28⟩) (Js7.out.2) ?_
        case h28 =>
          intro w hSw
          go_simp
          with_reducible rfl
        simp only [List.setIfInBounds_toArray, List.set_cons_zero, List.set_cons_succ]
        refine' take_at (i := 29) (d := 152) (v := _) rfl rfl (by kernel_rfl) (by kernel_rfl) (by kernel_rfl) (fun _ _ _ h => h) (Or.inl ⟨by rfl, ?h29⟩) (Js7.out.2) ?_
        case h29 =>
          intro w hSw
          go_simp
          with_reducible rfl
        simp only [List.setIfInBounds_toArray, List.set_cons_zero, List.set_cons_succ]
        refine' take_at (i := 30) (d := 153) (v := _) rfl rfl (by kernel_rfl) (by kernel_rfl) (by kernel_rfl) (fun _ _ _ h => h) (Or.inl ⟨by rfl, ?h30⟩) (Js7.out.2) ?_
        case h30 =>
          intro w hSw
          go_simp
          with_reducible rfl
        simp only [List.setIfInBounds_toArray, List.set_cons_zero, List.set_cons_succ]
        refine' take_at (i := 31) (d := 154) (v := _) rfl rfl (by kernel_rfl) (by kernel_rfl) (by kernel_rfl) (fun _ _ _ h => h) (Or.inl ⟨by rfl, ?h31⟩) (Js7.out.2) ?_
        case h31 =>
          intro w hSw
          go_simp
          with_reducible rfl
        simp only [List.setIfInBounds_toArray, List.set_cons_zero, List.set_cons_succ]
        refine' take_at (i := 34) (d := 157) (v := _) rfl rfl (by kernel_rfl) (by kernel_rfl) (by kernel_rfl) (fun _ _ _ h => h) (Or.inl ⟨by rfl, ?h34⟩) (Js7.out.2) ?_
        case h34 =>
          intro w hSw
          go_simp
          with_reducible rfl
        simp only [List.setIfInBounds_toArray, List.set_cons_zero, List.set_cons_succ]
        refine wpAnyH_ready (rs := [32]) (by kernel_rfl) (by simp) ?_
        refine AllReadyH.cons (o := _) rfl (fun KQ hKQ => ?_) AllReadyH.nil
        go_simp
        refine (Js7.out.1.one.put HS.out).mono ?_
        rintro e s8 ⟨vp, rfl, hvp, hM, hb⟩
        have Js8 : Hid (Bo15 LS LRe W s8 q6 r (1 + 2 * (k : Int) + 1 + 1) s6 s6 F6 G6 ∧ Below s0.heap.size s0 s8 ∧ Bs s8 vp (Sq.bytes s6)) := ⟨Js7.out.1.more HS.out hb, Js7.out.2.trans (hb.mono Js7.out.2.size), Bs.own hvp⟩
        obtain ⟨ap, cp9, hve, _, _⟩ := row_form hvp
        obtain ⟨LB9, hLB9⟩ : ∃ z, z = (Sq.bytes s6).length := ⟨_, rfl⟩
        rw [← hLB9] at hve
        subst hve
        clear hvp hM hLB9 Js7 hb
        simp only []
        refine hKQ.out _ _ Js8.out.2.1 (fun _ => ?_)
        refine wpAnyH_more (S' := fun w' => Below s8.heap.size s8 w') (fun w' h => Js8.out.2.1.trans (h.mono Js8.out.2.1.size)) _ _ _ _ ?_
        clear hKQ KQ
        refine' take_at (i := 33) (d := 156) (v := _) rfl rfl (by kernel_rfl) (by kernel_rfl) (by kernel_rfl) (fun _ _ _ h => h) (Or.inl ⟨by rfl, ?h33⟩) (Below.refl _ _) ?_
        case h33 =>
          intro w hSw
          have hcv := (Js8.out.2.2.below hSw).conv
          rw [← HZZ.out] at hcv
          go_simp
          with_reducible rfl
        simp only [List.setIfInBounds_toArray, List.set_cons_zero, List.set_cons_succ]
        refine wpAnyH_ready (rs := [35]) (by kernel_rfl) (by simp) ?_
        refine AllReadyH.cons (o := _) rfl (fun KQ hKQ => ?_) AllReadyH.nil
        go_simp
        refine (refPut_any15 r s6 G6 _ s8 Js8.out.1.two.ld Js8.out.1.two.fine).mono ?_
        rintro e s9 ⟨vp, rfl, hvp, hb⟩
        have Js9 : Hid (Bo15 LS LRe W s9 q6 r (1 + 2 * (k : Int) + 1 + 1) s6 s6 F6 G6 ∧ Bs s9 vp (Sq.bytes s6)) := ⟨Js8.out.1.more HS.out hb, hvp⟩
        obtain ⟨ap2, np2, cp2, rfl, hxp1, hxp2⟩ := hvp
        clear hxp1 hxp2 Js8
        simp only []
        refine hKQ.out _ _ hb (fun _ => ?_)
        refine wpAnyH_more (S' := fun w' => Below s9.heap.size s9 w') (fun w' h => hb.trans (h.mono hb.size)) _ _ _ _ ?_
        clear hKQ KQ hb
        refine' take_at (i := 36) (d := 159) (v := _) rfl rfl (by kernel_rfl) (by kernel_rfl) (by kernel_rfl) (fun _ _ _ h => h) (Or.inl ⟨by rfl, ?h36⟩) (Below.refl _ _) ?_
        case h36 =>
          intro w hSw
          have hcv := (Js9.out.2.below hSw).conv
          rw [← HZZ.out] at hcv
          go_simp
          with_reducible rfl
        simp only [List.setIfInBounds_toArray, List.set_cons_zero, List.set_cons_succ]
        refine' take_at (i := 37) (d := 160) (v := _) rfl rfl (by kernel_rfl) (by kernel_rfl) (by kernel_rfl) (fun _ _ _ h => h) (Or.inl ⟨by rfl, ?h37⟩) (Below.refl _ _) ?_
        case h37 =>
          intro w hSw
          go_simp
          with_reducible rfl
        simp only [List.setIfInBounds_toArray, List.set_cons_zero, List.set_cons_succ]
        refine' take_at (i := 38) (d := 161) (v := _) rfl rfl (by kernel_rfl) (by kernel_rfl) (by kernel_rfl) (fun _ _ _ h => h) (Or.inl ⟨by rfl, ?h38⟩) (Below.refl _ _) ?_
        case h38 =>
          intro w hSw
          go_simp
          with_reducible rfl
        simp only [List.setIfInBounds_toArray, List.set_cons_zero, List.set_cons_succ]
        refine wpAnyH_done (by kernel_rfl) ?_ _
        go_wp2
        go_roundw
        case rel => exact ⟨k + 1, q6, s6, F6, G6, by omega, by go_num, rfl, by rw [show 1 + 2 * ((k + 1 : Nat) : Int) = (1 + 2 * (k : Int) + 1 + 1) by omega]; exact Js9.out.1⟩
        case measure => simp [intOf]; omega
    · have hlt' : ¬ (k : Int) < (N : Int) := by omega
      go_wp2
      go_ret
      exact ⟨rfl, H3.out.one.below⟩
end Go.Proofs.Ytlabdhllindenaa
