/- The reference's Verdict, and the landed one: plain reckoning, no program. What the reference's Verdict answers. -/
import Derived.Test.YtjimemnkmpapgaaGreatDoorPn19
import Derived.Test.YtjimemnkmpapgaaGreatDoorRMk19
namespace Go.Proofs.YtjimemnkmpapgaaGreatDoor.Pn

def rf (busy : Bool) (b : Int × Int) (x : V) : Int × Int := if busy = true ∧ x.err ≠ 12 then b else if x.at_ < b.1 then (x.at_, x.err) else b
theorem rf_busy : ∀ (l : List V) (m : V), m.err = 12 → l.foldl (rf true) (m.at_, m.err) = ((least m l).at_, (least m l).err)
  | [], m, _ => rfl
  | x :: l, m, hm => by
    show l.foldl (rf true) (rf true (m.at_, m.err) x) = ((least (if less x m then x else m) l).at_, (least (if less x m then x else m) l).err)
    by_cases hx : x.err = 12
    · have hl : less x m = decide (x.at_ < m.at_) := by unfold less; rw [decide_eq_true hx, decide_eq_true hm]; rfl
      have hr : rf true (m.at_, m.err) x = if x.at_ < m.at_ then (x.at_, x.err) else (m.at_, m.err) := by unfold rf; rw [if_neg (fun h => h.2 hx)]
      rw [hl, hr]
      by_cases h : x.at_ < m.at_
      · rw [if_pos h, decide_eq_true h, if_pos rfl]; exact rf_busy l x hx
      · rw [if_neg h, decide_eq_false h, if_neg (by decide)]; exact rf_busy l m hm
    · have hl : less x m = false := by unfold less; rw [decide_eq_false hx, decide_eq_true hm]; rfl
      have hr : rf true (m.at_, m.err) x = (m.at_, m.err) := by unfold rf; rw [if_pos ⟨rfl, hx⟩]
      rw [hl, hr, if_neg (by decide)]
      exact rf_busy l m hm
theorem rf_wait : ∀ (l : List V) (m : V) (z : Int × Int), m.err ≠ 12 → (∃ x ∈ l, x.err = 12) → (∀ x ∈ l, x.at_ < z.1) → l.foldl (rf true) z = ((least m l).at_, (least m l).err)
  | [], _, _, _, ⟨x, h, _⟩, _ => by cases h
  | x :: l, m, z, hm, hb, hz => by
    show l.foldl (rf true) (rf true z x) = ((least (if less x m then x else m) l).at_, (least (if less x m then x else m) l).err)
    by_cases hx : x.err = 12
    · have hl : less x m = true := by unfold less; rw [decide_eq_true hx, decide_eq_false hm]; rfl
      have hr : rf true z x = (x.at_, x.err) := by unfold rf; rw [if_neg (fun h => h.2 hx), if_pos (hz x List.mem_cons_self)]
      rw [hl, hr, if_pos rfl]
      exact rf_busy l x hx
    · have hr : rf true z x = z := by unfold rf; rw [if_pos ⟨rfl, hx⟩]
      have hb2 : ∃ y ∈ l, y.err = 12 := by
        obtain ⟨y, hy, he⟩ := hb
        rcases List.mem_cons.1 hy with rfl | hy
        · exact absurd he hx
        · exact ⟨y, hy, he⟩
      rw [hr]
      exact rf_wait l _ z (by split; exact hx; exact hm) hb2 fun y hy => hz y (List.mem_cons_of_mem _ hy)
theorem rf_calm : ∀ (l : List V) (m : V), m.err ≠ 12 → (∀ x ∈ l, x.err ≠ 12) → l.foldl (rf false) (m.at_, m.err) = ((least m l).at_, (least m l).err)
  | [], m, _, _ => rfl
  | x :: l, m, hm, h => by
    have hx := h x List.mem_cons_self
    show l.foldl (rf false) (rf false (m.at_, m.err) x) = ((least (if less x m then x else m) l).at_, (least (if less x m then x else m) l).err)
    have hl : less x m = decide (x.at_ < m.at_) := by unfold less; rw [decide_eq_false hx, decide_eq_false hm]; rfl
    have hr : rf false (m.at_, m.err) x = if x.at_ < m.at_ then (x.at_, x.err) else (m.at_, m.err) := by unfold rf; rw [if_neg (fun h => by cases h.1)]
    rw [hl, hr]
    have hq := fun y hy => h y (List.mem_cons_of_mem x hy)
    by_cases k : x.at_ < m.at_
    · rw [if_pos k, decide_eq_true k, if_pos rfl]; exact rf_calm l x hx hq
    · rw [if_neg k, decide_eq_false k, if_neg (by decide)]; exact rf_calm l m hm hq
/-- Both tell the same. -/
theorem rf_told {A : List V} (h0 : A ≠ []) (hz : ∀ x ∈ A, x.at_ < 1000) : told A = ((A.foldl (rf (A.any fun x => decide (x.err = 12))) (1000, 0)).2, (A.foldl (rf (A.any fun x => decide (x.err = 12))) (1000, 0)).1) := by
  cases A with
  | nil => exact absurd rfl h0
  | cons a l =>
    have key : (a :: l).foldl (rf ((a :: l).any fun x => decide (x.err = 12))) (1000, 0) = ((least a l).at_, (least a l).err) := by
      have ha := hz a List.mem_cons_self
      by_cases hb : ∃ x ∈ a :: l, x.err = 12
      · have e : ((a :: l).any fun x => decide (x.err = 12)) = true := List.any_eq_true.2 (by obtain ⟨x, hx, he⟩ := hb; exact ⟨x, hx, decide_eq_true he⟩)
        rw [e]
        by_cases h12 : a.err = 12
        · show l.foldl (rf true) (rf true (1000, 0) a) = _
          have hr : rf true (1000, 0) a = (a.at_, a.err) := by unfold rf; rw [if_neg (fun h => h.2 h12), if_pos ha]
          rw [hr]
          exact rf_busy l a h12
        · show l.foldl (rf true) (rf true (1000, 0) a) = _
          have hr : rf true (1000, 0) a = (1000, 0) := by unfold rf; rw [if_pos ⟨rfl, h12⟩]
          rw [hr]
          refine rf_wait l a (1000, 0) h12 ?_ fun x hx => hz x (List.mem_cons_of_mem _ hx)
          obtain ⟨x, hx, he⟩ := hb
          rcases List.mem_cons.1 hx with rfl | hx
          · exact absurd he h12
          · exact ⟨x, hx, he⟩
      · have e : ((a :: l).any fun x => decide (x.err = 12)) = false := List.any_eq_false.2 fun x hx => by
          simp only [decide_eq_true_eq]
          exact fun he => hb ⟨x, hx, he⟩
        rw [e]
        show l.foldl (rf false) (rf false (1000, 0) a) = _
        have h12 : a.err ≠ 12 := fun he => hb ⟨a, List.mem_cons_self, he⟩
        have hr : rf false (1000, 0) a = (a.at_, a.err) := by unfold rf; rw [if_neg (fun h => by cases h.1), if_pos ha]
        rw [hr]
        exact rf_calm l a h12 fun x hx he => hb ⟨x, List.mem_cons_of_mem _ hx, he⟩
    rw [key]
    rfl
end Go.Proofs.YtjimemnkmpapgaaGreatDoor.Pn
namespace Go.Proofs.YtjimemnkmpapgaaGreatDoor
open Go.RowKit

def Pn.anyB (l : List Pn.V) : Bool := l.any fun x => x.err == 12
def Pn.anyE (l : List Pn.V) : Bool := l.any fun x => x.err != 0
theorem Pn.anyB_snoc (l : List Pn.V) (x : Pn.V) : Pn.anyB (l ++ [x]) = (Pn.anyB l || x.err == 12) := by unfold Pn.anyB; rw [List.any_append]; simp
theorem Pn.anyE_snoc (l : List Pn.V) (x : Pn.V) : Pn.anyE (l ++ [x]) = (Pn.anyE l || x.err != 0) := by unfold Pn.anyE; rw [List.any_append]; simp
theorem Pn.against_any (pl : List (List Int)) : ∀ (i : Nat) (vs : List Pn.V), ((Pn.against pl i vs).any fun x => decide (x.err = 12)) = Pn.anyB vs
  | _, [] => rfl
  | i, v :: vs => by
    have h := Pn.against_any pl (i + 1) vs
    unfold Pn.against
    by_cases e : v.err = 0
    · rw [if_pos e, h]
      show Pn.anyB vs = ((v.err == 12) || Pn.anyB vs)
      rw [e]
      rfl
    · rw [if_neg e]
      show (decide (v.err = 12) || _) = ((v.err == 12) || Pn.anyB vs)
      rw [h]
      rfl
theorem Pn.against_none (pl : List (List Int)) : ∀ (i : Nat) (vs : List Pn.V), Pn.anyE vs = false → Pn.against pl i vs = []
  | _, [], _ => rfl
  | i, v :: vs, h => by
    have h : ((v.err != 0) || Pn.anyE vs) = false := h
    rw [Bool.or_eq_false_iff] at h
    unfold Pn.against
    rw [if_pos (by simpa using h.1)]
    exact Pn.against_none pl (i + 1) vs h.2
theorem Pn.against_some (pl : List (List Int)) : ∀ (i : Nat) (vs : List Pn.V), Pn.anyE vs = true → Pn.against pl i vs ≠ []
  | _, [], h => by cases h
  | i, v :: vs, h => by
    have h : ((v.err != 0) || Pn.anyE vs) = true := h
    unfold Pn.against
    by_cases e : v.err = 0
    · rw [if_pos e]
      refine Pn.against_some pl (i + 1) vs ?_
      rw [e] at h
      simpa using h
    · rw [if_neg e]
      exact fun h => by cases h
theorem Pn.place_lt {p : Pn.St} (ok : Pn.Ok p) (i : Nat) (a : Int) : Pn.place p.pl i a < 1000 := by
  unfold Pn.place
  split
  · cases h : p.pl[i]? with
    | none => simp
    | some l =>
      cases h2 : l[a.toNat]? with
      | none => simp [h2]
      | some z =>
        have h3 := ok.rng l (List.mem_of_getElem? h) z (List.mem_of_getElem? h2)
        have h4 := ok.some_
        simp only [Option.getD_some, h2]
        omega
  · omega
theorem Pn.against_at {p : Pn.St} (ok : Pn.Ok p) : ∀ (i : Nat) (vs : List Pn.V), ∀ x ∈ Pn.against p.pl i vs, x.at_ < 1000
  | _, [], x, h => by cases h
  | i, v :: vs, x, h => by
    unfold Pn.against at h
    split at h
    · exact Pn.against_at ok (i + 1) vs x h
    · rcases List.mem_cons.1 h with rfl | h
      · exact Pn.place_lt ok i v.at_
      · exact Pn.against_at ok (i + 1) vs x h
set_option maxRecDepth 20000 in
set_option maxHeartbeats 8000000 in
theorem refVerdict_any19 (p : Pn.St) (u a b v : Value) (vs : List Pn.V) (w : World) (h : Pv w p u a b) (ok : Pn.Ok p) (hv : KW.At w v vs) (hl : vs.length ≤ 1000) :
    Calls Tryz.prog 19 #[pv p u a b, v] w fun e w' => e = .returned (.tuple #[.int .i64 (Pn.verdict p vs).1, .int .i64 (Pn.verdict p vs).2]) ∧ Below w.heap.size w w' := by
  obtain ⟨_, ⟨ax, ac, rfl⟩, ⟨bx, bc, rfl⟩⟩ := h.forms
  obtain ⟨NS, hNS⟩ : ∃ N, N = p.sh.length := ⟨_, rfl⟩
  obtain ⟨NP, hNP⟩ : ∃ N, N = p.pl.length := ⟨_, rfl⟩
  rw [← hNS, ← hNP] at h ⊢
  obtain ⟨vx, vc', rfl, _, _⟩ := hv.form
  obtain ⟨N, hN⟩ : ∃ N, N = vs.length := ⟨_, rfl⟩
  rw [← hN] at hv ⊢
  have H : Hid (Pv w p u (.slice ax NS ac) (.slice bx NP bc) ∧ Pn.Ok p ∧ KW.At w (.slice vx N vc') vs ∧ N = vs.length ∧ NS = p.sh.length ∧ NP = p.pl.length) := ⟨h, ok, hv, hN, hNS, hNP⟩
  have hN1 : N ≤ 1000 := by omega
  clear h ok hv hl hN hNS hNP
  unfold pv
  obtain ⟨q, hq⟩ : ∃ q, q = w.heap.size := ⟨_, rfl⟩
  have H0 : Hid (Below w.heap.size w (w.alloc (.cells #[.int .i64 p.s, .int .i64 p.n, u, .slice ax NS ac, .slice bx NP bc] 57)) ∧ Cb (w.alloc (.cells #[.int .i64 p.s, .int .i64 p.n, u, .slice ax NS ac, .slice bx NP bc] 57)) q [.int .i64 p.s, .int .i64 p.n, u, .slice ax NS ac, .slice bx NP bc] 57) := by
    rw [hq]
    exact ⟨(Below.refl _ w).alloc (Nat.le_refl _) _, Cb.made w [.int .i64 p.s, .int .i64 p.n, u, .slice ax NS ac, .slice bx NP bc] _⟩
  go_enter Tryz.func19, Tryz.ntmps19
  by_cases hne : N = NS
  · have hb0 : ((N : Int) != (NS : Int)) = false := by simp [hne]
    have HE : Hid (Pn.verdict p vs = Pn.told (Pn.against p.pl 0 vs) ∧ N = NP) := ⟨by unfold Pn.verdict; rw [if_pos (by rw [← H.out.2.2.2.1, ← H.out.2.2.2.2.1]; exact hne)], by rw [hne, H.out.2.2.2.2.1, H.out.2.2.2.2.2]; exact H.out.2.1.len⟩
    clear hne
    go_wp2
    rw [← hq]
    clear hq hb0
    generalize (w.alloc (.cells #[.int .i64 p.s, .int .i64 p.n, u, .slice ax NS ac, .slice bx NP bc] 57)) = w0 at *
    go_wp2
    go_loopw [6, 7, 8] (fun b c i wx => ∃ k : Nat, k ≤ N ∧ i = .int .i64 (k : Int) ∧ b = .bool (Pn.anyB (vs.take k)) ∧ c = .bool (Pn.anyE (vs.take k)) ∧ Below w0.heap.size w0 wx) (fun _ _ i _ => N - (intOf i).toNat)
    case atStart => exact ⟨0, Nat.zero_le _, rfl, rfl, rfl, Below.refl _ _⟩
    case round =>
      obtain ⟨k, hk, rfl, rfl, rfl, hb⟩ := hrel
      obtain ⟨bu, hbu⟩ : ∃ b, b = Pn.anyB (vs.take k) := ⟨_, rfl⟩
      obtain ⟨ba, hba⟩ : ∃ b, b = Pn.anyE (vs.take k) := ⟨_, rfl⟩
      have HW : Hid (Below w0.heap.size w0 wr ∧ bu = Pn.anyB (vs.take k) ∧ ba = Pn.anyE (vs.take k)) := ⟨hb, hbu, hba⟩
      rw [← hbu, ← hba]
      clear hb hbu hba
      by_cases hlt : k < N
      · have hlt' : (k : Int) < (N : Int) := by omega
        have hk0 : (0 : Int) ≤ (k : Int) := by omega
        have hwk : IntKind.wrap .i64 ((k : Int) + 1) = (k : Int) + 1 := by rw [IntKind.wrap_i64]; omega
        obtain ⟨x, hx⟩ : ∃ x, vs[k]? = some x := ⟨vs[k]'(by have := H.out.2.2.2.1; omega), List.getElem?_eq_getElem _⟩
        obtain ⟨g, o, rfl, hc⟩ := ((H.out.2.2.1.below H0.out.1).below HW.out.1).at hx
        have d0 : wr.cell? ⟨g, o + k * 2, none⟩ = some (.int .i64 x.err) := hc 0 _ rfl
        have HS : Hid (Pn.anyB (vs.take (k + 1)) = (bu || x.err == 12) ∧ Pn.anyE (vs.take (k + 1)) = (ba || x.err != 0)) := by
          rw [List.take_add_one, hx, HW.out.2.1, HW.out.2.2]
          exact ⟨Pn.anyB_snoc _ _, Pn.anyE_snoc _ _⟩
        clear hx hc
        cases bu <;> cases ba
        all_goals
          go_wp2
          go_roundw
          case rel => exact ⟨k + 1, by omega, by go_num, by rw [HS.out.1]; rfl, by rw [HS.out.2]; rfl, HW.out.1⟩
          case measure => simp [intOf]; omega
      · have hlt' : ¬ (k : Int) < (N : Int) := by omega
        have HB : Hid (bu = Pn.anyB vs ∧ ba = Pn.anyE vs ∧ Below w.heap.size w wr ∧ Cb wr q [.int .i64 p.s, .int .i64 p.n, u, .slice ax NS ac, .slice bx NP bc] 57) := by
          have h := HW.out
          rw [List.take_of_length_le (by have := H.out.2.2.2.1; omega)] at h
          exact ⟨h.2.1, h.2.2, H0.out.1.trans (h.1.mono H0.out.1.size), H0.out.2.below h.1⟩
        clear HW H0
        cases ba with
        | false =>
          have HV : Hid (Pn.verdict p vs = (0, -1)) := (show _ = _ by rw [HE.out.1, Pn.against_none _ _ _ HB.out.2.1.symm]; rfl)
          go_wp2
          go_ret2
          exact ⟨by rw [HV.out]; rfl, HB.out.2.2.1⟩
        | true =>
          have HV : Hid (Pn.verdict p vs = (((Pn.against p.pl 0 vs).foldl (Pn.rf bu) (1000, 0)).2, ((Pn.against p.pl 0 vs).foldl (Pn.rf bu) (1000, 0)).1)) := by
            have h := Pn.rf_told (A := Pn.against p.pl 0 vs) (Pn.against_some _ _ _ HB.out.2.1.symm) (Pn.against_at H.out.2.1 0 vs)
            rw [Pn.against_any, ← HB.out.1] at h
            exact HE.out.1.trans h
          have HB2 : Hid (Below w.heap.size w wr ∧ Cb wr q [.int .i64 p.s, .int .i64 p.n, u, .slice ax NS ac, .slice bx NP bc] 57) := HB.out.2.2
          clear HB
          go_wp2
          obtain ⟨w1, hw1⟩ : ∃ z, z = wr := ⟨_, rfl⟩
          rw [← hw1] at HB2 ⊢
          clear hw1
          go_loopw [9, 10, 11] (fun b c i wx => ∃ k : Nat, k ≤ N ∧ i = .int .i64 (k : Int) ∧ b = .int .i64 ((Pn.against p.pl 0 (vs.take k)).foldl (Pn.rf bu) (1000, 0)).1 ∧ c = .int .i64 ((Pn.against p.pl 0 (vs.take k)).foldl (Pn.rf bu) (1000, 0)).2 ∧ Below w1.heap.size w1 wx) (fun _ _ i _ => N - (intOf i).toNat)
          case atStart => exact ⟨0, Nat.zero_le _, rfl, rfl, rfl, Below.refl _ _⟩
          case round =>
            obtain ⟨k, hk, rfl, rfl, rfl, hb⟩ := hrel
            obtain ⟨be, hbe⟩ : ∃ b, b = ((Pn.against p.pl 0 (vs.take k)).foldl (Pn.rf bu) (1000, 0)).1 := ⟨_, rfl⟩
            obtain ⟨er, her⟩ : ∃ b, b = ((Pn.against p.pl 0 (vs.take k)).foldl (Pn.rf bu) (1000, 0)).2 := ⟨_, rfl⟩
            have HW : Hid (Below w1.heap.size w1 wr ∧ (Pn.against p.pl 0 (vs.take k)).foldl (Pn.rf bu) (1000, 0) = (be, er) ∧ Below w.heap.size w wr ∧ Cb wr q [.int .i64 p.s, .int .i64 p.n, u, .slice ax NS ac, .slice bx NP bc] 57) := ⟨hb, by rw [hbe, her], HB2.out.1.trans (hb.mono HB2.out.1.size), HB2.out.2.below hb⟩
            rw [← hbe, ← her]
            clear hb hbe her
            by_cases hlt : k < N
            · have hlt' : (k : Int) < (N : Int) := by omega
              have hk0 : (0 : Int) ≤ (k : Int) := by omega
              have hkp : (k : Int) < (NP : Int) := by have := HE.out.2; omega
              have hwk : IntKind.wrap .i64 ((k : Int) + 1) = (k : Int) + 1 := by rw [IntKind.wrap_i64]; omega
              obtain ⟨x, hx⟩ : ∃ x, vs[k]? = some x := ⟨vs[k]'(by have := H.out.2.2.2.1; omega), List.getElem?_eq_getElem _⟩
              obtain ⟨l, hl⟩ : ∃ l, p.pl[k]? = some l := ⟨p.pl[k]'(by have := H.out.2.2.2.2.2; omega), List.getElem?_eq_getElem _⟩
              obtain ⟨g, o, rfl, hc⟩ := (H.out.2.2.1.below HW.out.2.2.1).at hx
              obtain ⟨g2, o2, y, rfl, hcy, hya⟩ := (H.out.1.below HW.out.2.2.1).at hl
              obtain ⟨lx, lc, rfl, _, _⟩ := hya.form
              obtain ⟨L, hL⟩ : ∃ L, L = l.length := ⟨_, rfl⟩
              rw [← hL] at hcy hya
              have d0 : wr.cell? ⟨g, o + k * 2, none⟩ = some (.int .i64 x.err) := hc 0 _ rfl
              have d1 : wr.cell? ⟨g, o + k * 2 + 1, none⟩ = some (.int .i64 x.at_) := hc 1 _ rfl
              have q4 : wr.cell? ⟨q, 4, none⟩ = some (.slice (some ⟨g2, o2, none⟩) NP bc) := HW.out.2.2.2.cell 4
              have HY : Hid (KI.At wr (.slice lx L lc) l ∧ L = l.length) := ⟨hya, hL⟩
              have HF : Hid ((Pn.against p.pl 0 (vs.take (k + 1))).foldl (Pn.rf bu) (1000, 0) = if x.err = 0 then (be, er) else Pn.rf bu (be, er) ⟨x.err, Pn.place p.pl k x.at_⟩) := by
                have h := Pn.against_snoc p.pl 0 (vs.take k) x
                rw [List.length_take, Nat.min_eq_left (by have := H.out.2.2.2.1; omega), Nat.zero_add] at h
                refine (show _ = _ from ?_)
                rw [List.take_add_one, hx]
                show (Pn.against p.pl 0 (vs.take k ++ [x])).foldl _ _ = _
                rw [h, List.foldl_append, HW.out.2.1]
                split <;> rfl
              have HP : Hid (Pn.place p.pl k x.at_ = if 0 ≤ x.at_ then (l[x.at_.toNat]?).getD (-1) else -1) := (show _ = _ by unfold Pn.place; rw [hl]; rfl)
              clear hx hc hl hya hL
              by_cases he : x.err = 0
              · have hb0 : (x.err == 0) = true := by simp [he]
                have HT : Hid ((Pn.against p.pl 0 (vs.take (k + 1))).foldl (Pn.rf bu) (1000, 0) = (be, er)) := (show _ = _ by rw [HF.out, if_pos he])
                cases bu
                all_goals
                  go_wp2
                  go_roundw
                  case rel => exact ⟨k + 1, by omega, by go_num, by rw [HT.out], by rw [HT.out], HW.out.1⟩
                  case measure => simp [intOf]; omega
              · have hb0 : (x.err == 0) = false := by simp [he]
                cases bu with
                | false =>
                  have HG : Hid (¬ (false = true ∧ x.err ≠ 12)) := fun h => by cases h.1
                  obtain ⟨z, hz⟩ : ∃ z, z = Pn.place p.pl k x.at_ := ⟨_, rfl⟩
                  have HF2 : Hid ((Pn.against p.pl 0 (vs.take (k + 1))).foldl (Pn.rf false) (1000, 0) = if z < be then (z, x.err) else (be, er)) := (show _ = _ by rw [HF.out, if_neg he, hz]; unfold Pn.rf; exact if_neg HG.out)
                  by_cases h0 : x.at_ < 0
                  · have h0' : ¬ (0 : Int) ≤ x.at_ := by omega
                    have hz1 : z = -1 := by rw [hz, HP.out, if_neg h0']
                    subst hz1
                    clear hz
                    go_upto_region 17 with fail
                    go_quiet (fail)
                    have HQ : Hid (Below w1.heap.size w1 (wr.drewN nq) ∧ (wr.drewN nq).cell? ⟨g, o + k * 2, none⟩ = some (.int .i64 x.err)) := ⟨below_drewN HW.out.1 _, d0⟩
                    clear d0 d1 q4 hcy
                    generalize wr.drewN nq = w3 at *
                    have d0 := HQ.out.2
                    by_cases hz : (-1) < be
                    · have HT : Hid ((Pn.against p.pl 0 (vs.take (k + 1))).foldl (Pn.rf false) (1000, 0) = ((-1), x.err)) := (show _ = _ by rw [HF2.out, if_pos hz])
                      go_wp2
                      go_quiet (fail)
                      have HD : Hid (Below w1.heap.size w1 (w3.drewN nq)) := below_drewN HQ.out.1 _
                      generalize w3.drewN nq = w4 at *
                      go_wp2
                      go_roundw
                      case rel => exact ⟨k + 1, by omega, by go_num, by rw [HT.out], by rw [HT.out], HD.out⟩
                      case measure => simp [intOf]; omega
                    · have HT : Hid ((Pn.against p.pl 0 (vs.take (k + 1))).foldl (Pn.rf false) (1000, 0) = (be, er)) := (show _ = _ by rw [HF2.out, if_neg hz])
                      go_wp2
                      go_roundw
                      case rel => exact ⟨k + 1, by omega, by go_num, by rw [HT.out], by rw [HT.out], HQ.out.1⟩
                      case measure => simp [intOf]; omega
                  · have h0' : (0 : Int) ≤ x.at_ := by omega
                    obtain ⟨j, hj⟩ : ∃ j : Nat, x.at_ = (j : Int) := ⟨x.at_.toNat, by omega⟩
                    rw [hj] at d1 h0'
                    by_cases h1 : (L : Int) ≤ (j : Int)
                    · have h1' : ¬ (j : Int) < (L : Int) := by omega
                      have hz1 : z = -1 := by
                        rw [hz, HP.out, hj, if_pos h0', List.getElem?_eq_none (by have := HY.out.2; omega)]
                        rfl
                      subst hz1
                      clear hz h0
                      go_upto_region 17 with fail
                      go_quiet (fail)
                      have HQ : Hid (Below w1.heap.size w1 (wr.drewN nq) ∧ (wr.drewN nq).cell? ⟨g, o + k * 2, none⟩ = some (.int .i64 x.err)) := ⟨below_drewN HW.out.1 _, d0⟩
                      clear d0 d1 q4 hcy
                      generalize wr.drewN nq = w3 at *
                      have d0 := HQ.out.2
                      by_cases hz : (-1) < be
                      · have HT : Hid ((Pn.against p.pl 0 (vs.take (k + 1))).foldl (Pn.rf false) (1000, 0) = ((-1), x.err)) := (show _ = _ by rw [HF2.out, if_pos hz])
                        go_wp2
                        go_quiet (fail)
                        have HD : Hid (Below w1.heap.size w1 (w3.drewN nq)) := below_drewN HQ.out.1 _
                        generalize w3.drewN nq = w4 at *
                        go_wp2
                        go_roundw
                        case rel => exact ⟨k + 1, by omega, by go_num, by rw [HT.out], by rw [HT.out], HD.out⟩
                        case measure => simp [intOf]; omega
                      · have HT : Hid ((Pn.against p.pl 0 (vs.take (k + 1))).foldl (Pn.rf false) (1000, 0) = (be, er)) := (show _ = _ by rw [HF2.out, if_neg hz])
                        go_wp2
                        go_roundw
                        case rel => exact ⟨k + 1, by omega, by go_num, by rw [HT.out], by rw [HT.out], HQ.out.1⟩
                        case measure => simp [intOf]; omega
                    · have h1' : (j : Int) < (L : Int) := by omega
                      obtain ⟨y, hy⟩ : ∃ y, l[j]? = some y := ⟨l[j]'(by have := HY.out.2; omega), List.getElem?_eq_getElem _⟩
                      have hz1 : z = y := by
                        rw [hz, HP.out, hj, if_pos h0', show ((j : Int)).toNat = j by omega, hy]
                        rfl
                      subst hz1
                      obtain ⟨g3, o3, e3, hc3⟩ := HY.out.1.at hy
                      subst e3
                      have d3 : wr.cell? ⟨g3, o3 + j, none⟩ = some (.int .i64 z) := by simpa [KI] using hc3 0 _ rfl
                      clear hz h0 hy hc3
                      go_upto_region 17 with fail
                      go_quiet (fail)
                      have HQ1 : Hid (Below w1.heap.size w1 (wr.drewN nq)) := below_drewN HW.out.1 _
                      have e0 : (wr.drewN nq).cell? ⟨g, o + k * 2, none⟩ = some (.int .i64 x.err) := d0
                      have e1 : (wr.drewN nq).cell? ⟨g, o + k * 2 + 1, none⟩ = some (.int .i64 (j : Int)) := d1
                      have e4 : (wr.drewN nq).cell? ⟨q, 4, none⟩ = some (.slice (some ⟨g2, o2, none⟩) NP bc) := q4
                      have ey : (wr.drewN nq).cell? ⟨g2, o2 + k, none⟩ = some (.slice (some ⟨g3, o3, none⟩) L lc) := hcy
                      have e3 : (wr.drewN nq).cell? ⟨g3, o3 + j, none⟩ = some (.int .i64 z) := d3
                      clear d0 d1 q4 hcy d3
                      generalize wr.drewN nq = w2 at *
                      go_upto_region 18 with fail
                      go_quiet (fail)
                      have HQ : Hid (Below w1.heap.size w1 (w2.drewN nq) ∧ (w2.drewN nq).cell? ⟨g, o + k * 2, none⟩ = some (.int .i64 x.err)) := ⟨below_drewN HQ1.out _, e0⟩
                      clear e0 e1 e4 ey e3
                      generalize w2.drewN nq = w3 at *
                      have d0 := HQ.out.2
                      by_cases hz : z < be
                      · have HT : Hid ((Pn.against p.pl 0 (vs.take (k + 1))).foldl (Pn.rf false) (1000, 0) = (z, x.err)) := (show _ = _ by rw [HF2.out, if_pos hz])
                        go_wp2
                        go_quiet (fail)
                        have HD : Hid (Below w1.heap.size w1 (w3.drewN nq)) := below_drewN HQ.out.1 _
                        generalize w3.drewN nq = w4 at *
                        go_wp2
                        go_roundw
                        case rel => exact ⟨k + 1, by omega, by go_num, by rw [HT.out], by rw [HT.out], HD.out⟩
                        case measure => simp [intOf]; omega
                      · have HT : Hid ((Pn.against p.pl 0 (vs.take (k + 1))).foldl (Pn.rf false) (1000, 0) = (be, er)) := (show _ = _ by rw [HF2.out, if_neg hz])
                        go_wp2
                        go_roundw
                        case rel => exact ⟨k + 1, by omega, by go_num, by rw [HT.out], by rw [HT.out], HQ.out.1⟩
                        case measure => simp [intOf]; omega
                | true =>
                  by_cases h12 : x.err = 12
                  · have hb12 : (x.err != 12) = false := by simp [h12]
                    have HG : Hid (¬ (true = true ∧ x.err ≠ 12)) := fun h => h.2 h12
                    clear h12
                    obtain ⟨z, hz⟩ : ∃ z, z = Pn.place p.pl k x.at_ := ⟨_, rfl⟩
                    have HF2 : Hid ((Pn.against p.pl 0 (vs.take (k + 1))).foldl (Pn.rf true) (1000, 0) = if z < be then (z, x.err) else (be, er)) := (show _ = _ by rw [HF.out, if_neg he, hz]; unfold Pn.rf; exact if_neg HG.out)
                    by_cases h0 : x.at_ < 0
                    · have h0' : ¬ (0 : Int) ≤ x.at_ := by omega
                      have hz1 : z = -1 := by rw [hz, HP.out, if_neg h0']
                      subst hz1
                      clear hz
                      go_upto_region 17 with fail
                      go_quiet (fail)
                      have HQ : Hid (Below w1.heap.size w1 (wr.drewN nq) ∧ (wr.drewN nq).cell? ⟨g, o + k * 2, none⟩ = some (.int .i64 x.err)) := ⟨below_drewN HW.out.1 _, d0⟩
                      clear d0 d1 q4 hcy
                      generalize wr.drewN nq = w3 at *
                      have d0 := HQ.out.2
                      by_cases hz : (-1) < be
                      · have HT : Hid ((Pn.against p.pl 0 (vs.take (k + 1))).foldl (Pn.rf true) (1000, 0) = ((-1), x.err)) := (show _ = _ by rw [HF2.out, if_pos hz])
                        go_wp2
                        go_quiet (fail)
                        have HD : Hid (Below w1.heap.size w1 (w3.drewN nq)) := below_drewN HQ.out.1 _
                        generalize w3.drewN nq = w4 at *
                        go_wp2
                        go_roundw
                        case rel => exact ⟨k + 1, by omega, by go_num, by rw [HT.out], by rw [HT.out], HD.out⟩
                        case measure => simp [intOf]; omega
                      · have HT : Hid ((Pn.against p.pl 0 (vs.take (k + 1))).foldl (Pn.rf true) (1000, 0) = (be, er)) := (show _ = _ by rw [HF2.out, if_neg hz])
                        go_wp2
                        go_roundw
                        case rel => exact ⟨k + 1, by omega, by go_num, by rw [HT.out], by rw [HT.out], HQ.out.1⟩
                        case measure => simp [intOf]; omega
                    · have h0' : (0 : Int) ≤ x.at_ := by omega
                      obtain ⟨j, hj⟩ : ∃ j : Nat, x.at_ = (j : Int) := ⟨x.at_.toNat, by omega⟩
                      rw [hj] at d1 h0'
                      by_cases h1 : (L : Int) ≤ (j : Int)
                      · have h1' : ¬ (j : Int) < (L : Int) := by omega
                        have hz1 : z = -1 := by
                          rw [hz, HP.out, hj, if_pos h0', List.getElem?_eq_none (by have := HY.out.2; omega)]
                          rfl
                        subst hz1
                        clear hz h0
                        go_upto_region 17 with fail
                        go_quiet (fail)
                        have HQ : Hid (Below w1.heap.size w1 (wr.drewN nq) ∧ (wr.drewN nq).cell? ⟨g, o + k * 2, none⟩ = some (.int .i64 x.err)) := ⟨below_drewN HW.out.1 _, d0⟩
                        clear d0 d1 q4 hcy
                        generalize wr.drewN nq = w3 at *
                        have d0 := HQ.out.2
                        by_cases hz : (-1) < be
                        · have HT : Hid ((Pn.against p.pl 0 (vs.take (k + 1))).foldl (Pn.rf true) (1000, 0) = ((-1), x.err)) := (show _ = _ by rw [HF2.out, if_pos hz])
                          go_wp2
                          go_quiet (fail)
                          have HD : Hid (Below w1.heap.size w1 (w3.drewN nq)) := below_drewN HQ.out.1 _
                          generalize w3.drewN nq = w4 at *
                          go_wp2
                          go_roundw
                          case rel => exact ⟨k + 1, by omega, by go_num, by rw [HT.out], by rw [HT.out], HD.out⟩
                          case measure => simp [intOf]; omega
                        · have HT : Hid ((Pn.against p.pl 0 (vs.take (k + 1))).foldl (Pn.rf true) (1000, 0) = (be, er)) := (show _ = _ by rw [HF2.out, if_neg hz])
                          go_wp2
                          go_roundw
                          case rel => exact ⟨k + 1, by omega, by go_num, by rw [HT.out], by rw [HT.out], HQ.out.1⟩
                          case measure => simp [intOf]; omega
                      · have h1' : (j : Int) < (L : Int) := by omega
                        obtain ⟨y, hy⟩ : ∃ y, l[j]? = some y := ⟨l[j]'(by have := HY.out.2; omega), List.getElem?_eq_getElem _⟩
                        have hz1 : z = y := by
                          rw [hz, HP.out, hj, if_pos h0', show ((j : Int)).toNat = j by omega, hy]
                          rfl
                        subst hz1
                        obtain ⟨g3, o3, e3, hc3⟩ := HY.out.1.at hy
                        subst e3
                        have d3 : wr.cell? ⟨g3, o3 + j, none⟩ = some (.int .i64 z) := by simpa [KI] using hc3 0 _ rfl
                        clear hz h0 hy hc3
                        go_upto_region 17 with fail
                        go_quiet (fail)
                        have HQ1 : Hid (Below w1.heap.size w1 (wr.drewN nq)) := below_drewN HW.out.1 _
                        have e0 : (wr.drewN nq).cell? ⟨g, o + k * 2, none⟩ = some (.int .i64 x.err) := d0
                        have e1 : (wr.drewN nq).cell? ⟨g, o + k * 2 + 1, none⟩ = some (.int .i64 (j : Int)) := d1
                        have e4 : (wr.drewN nq).cell? ⟨q, 4, none⟩ = some (.slice (some ⟨g2, o2, none⟩) NP bc) := q4
                        have ey : (wr.drewN nq).cell? ⟨g2, o2 + k, none⟩ = some (.slice (some ⟨g3, o3, none⟩) L lc) := hcy
                        have e3 : (wr.drewN nq).cell? ⟨g3, o3 + j, none⟩ = some (.int .i64 z) := d3
                        clear d0 d1 q4 hcy d3
                        generalize wr.drewN nq = w2 at *
                        go_upto_region 18 with fail
                        go_quiet (fail)
                        have HQ : Hid (Below w1.heap.size w1 (w2.drewN nq) ∧ (w2.drewN nq).cell? ⟨g, o + k * 2, none⟩ = some (.int .i64 x.err)) := ⟨below_drewN HQ1.out _, e0⟩
                        clear e0 e1 e4 ey e3
                        generalize w2.drewN nq = w3 at *
                        have d0 := HQ.out.2
                        by_cases hz : z < be
                        · have HT : Hid ((Pn.against p.pl 0 (vs.take (k + 1))).foldl (Pn.rf true) (1000, 0) = (z, x.err)) := (show _ = _ by rw [HF2.out, if_pos hz])
                          go_wp2
                          go_quiet (fail)
                          have HD : Hid (Below w1.heap.size w1 (w3.drewN nq)) := below_drewN HQ.out.1 _
                          generalize w3.drewN nq = w4 at *
                          go_wp2
                          go_roundw
                          case rel => exact ⟨k + 1, by omega, by go_num, by rw [HT.out], by rw [HT.out], HD.out⟩
                          case measure => simp [intOf]; omega
                        · have HT : Hid ((Pn.against p.pl 0 (vs.take (k + 1))).foldl (Pn.rf true) (1000, 0) = (be, er)) := (show _ = _ by rw [HF2.out, if_neg hz])
                          go_wp2
                          go_roundw
                          case rel => exact ⟨k + 1, by omega, by go_num, by rw [HT.out], by rw [HT.out], HQ.out.1⟩
                          case measure => simp [intOf]; omega
                  · have hb12 : (x.err != 12) = true := by simp [h12]
                    have HT : Hid ((Pn.against p.pl 0 (vs.take (k + 1))).foldl (Pn.rf true) (1000, 0) = (be, er)) := (show _ = _ by rw [HF.out, if_neg he]; exact if_pos ⟨rfl, h12⟩)
                    go_wp2
                    go_roundw
                    case rel => exact ⟨k + 1, by omega, by go_num, by rw [HT.out], by rw [HT.out], HW.out.1⟩
                    case measure => simp [intOf]; omega
            · have hlt' : ¬ (k : Int) < (N : Int) := by omega
              have HT : Hid (Pn.verdict p vs = (er, be) ∧ Below w.heap.size w wr) := by
                have h := HW.out.2.1
                rw [List.take_of_length_le (by have := H.out.2.2.2.1; omega)] at h
                refine ⟨?_, HW.out.2.2.1⟩
                rw [HV.out, h]
              go_wp2
              go_ret2
              exact ⟨by rw [HT.out.1]; rfl, HT.out.2⟩
  · have hb0 : ((N : Int) != (NS : Int)) = true := by simp; omega
    have HE : Hid (Pn.verdict p vs = (1, -1)) := (show _ = _ by unfold Pn.verdict; rw [if_neg (by rw [← H.out.2.2.2.1, ← H.out.2.2.2.2.1]; exact hne)])
    clear hne
    go_wp2
    go_ret2
    exact ⟨by rw [HE.out]; rfl, H0.out.1⟩
end Go.Proofs.YtjimemnkmpapgaaGreatDoor
