/- What the landed Decide does. -/
import Derived.Test.YtboejbjobjhajaaGreatDoorWc18
namespace Go.Proofs.YtboejbjobjhajaaGreatDoor
open Go.RowKit
section
variable {LT : Rep11} {LS : Rep17} {w w' : World} {q : Nat} {room z wt : Int} {t : Tq.Tr} {lk : Lk.St} {fw fd fs fw' fd' : Lit → Option Value} {F F' : Nat → Prop} {qt ql a b c : Nat} {Ft Fl G : Nat → Prop} {ps : List Pt.Pr} {V : Int → Value} {s : Pt.St}
theorem IsW18.gone (h : IsW18 w ps V G fw) {id : Int} (hu : Up fw (ikey id) none fw') (hk : ∀ k, G k → k < w.heap.size → w'.heap[k]? = w.heap[k]?) : IsW18 w' (Pt.rest ps id) V G fw' := by
  have h2 := h.keep hk
  refine ⟨fun y => ?_, fun kl hkl => ?_, fun x hx => h2.ops x (Pt.mem_rest.1 hx).1, fun x hx => h2.off x (Pt.mem_rest.1 hx).1⟩
  · have hr : ∀ l : List Pt.Pr, (Pt.rest l id).find? (fun p => decide (p.id = y)) = if y = id then none else l.find? fun p => decide (p.id = y) := fun l => by
      unfold Pt.rest
      rw [List.find?_filter]
      by_cases e : y = id
      · rw [if_pos e, List.find?_eq_none]
        intro x _ hx
        simp only [decide_eq_true_eq] at hx
        exact hx.1 (hx.2.trans e)
      · rw [if_neg e]
        congr 1
        funext x
        by_cases e2 : x.id = y
        · simp [e2, e]
        · simp [e2]
    rw [hr]
    by_cases e : y = id
    · rw [if_pos e, e, hu.same]
      rfl
    · rw [if_neg e, hu.other _ (fun e2 => e (ikey_inj e2)), h.at_]
  · by_cases e : kl = ikey id
    · exact ⟨_, e⟩
    · rw [hu.other _ e] at hkl
      exact h.key kl hkl
theorem IsD18.snoc {dn : List Int} (h : IsD18 dn fd) {id : Int} (hu : Up fd (ikey id) (some (.agg #[])) fd') : IsD18 (dn ++ [id]) fd' := by
  refine ⟨fun y => ?_, fun kl hkl => ?_⟩
  · by_cases e : y = id
    · rw [e, hu.same, if_pos (by simp)]
    · rw [hu.other _ (fun e2 => e (ikey_inj e2)), h.at_]
      simp [e]
  · by_cases e : kl = ikey id
    · exact ⟨_, e⟩
    · rw [hu.other _ e] at hkl
      exact h.key kl hkl
theorem uniq18 {l : List Pt.Pr} (h : l.Pairwise fun p q => p.id ≠ q.id) {x y : Pt.Pr} (hx : x ∈ l) (hy : y ∈ l) (e : x.id = y.id) : x = y := by
  induction l with
  | nil => cases hx
  | cons a l ih =>
    obtain ⟨h1, h2⟩ := List.pairwise_cons.1 h
    rcases List.mem_cons.1 hx with rfl | hx2 <;> rcases List.mem_cons.1 hy with rfl | hy2
    · rfl
    · exact absurd e (h1 y hy2)
    · exact absurd e.symm (h1 x hx2)
    · exact ih h2 hx2 hy2
theorem gone_asks18 {n : Nat} (hf : Pt.Fit n s) {p : Pt.Pr} (hp : p ∈ s.ps) :
    (p.closes = true → Pt.asks (Pt.rest s.ps p.id) p.sess = Pt.asks s.ps p.sess ∧ ((Pt.rest s.ps p.id).any fun x => x.closes && decide (x.sess = p.sess)) = false) ∧
    (p.closes = false → ((Pt.asks (Pt.rest s.ps p.id) p.sess : Nat) : Int) = (Pt.asks s.ps p.sess : Nat) + (-1) ∧ ((Pt.rest s.ps p.id).any fun x => x.closes && decide (x.sess = p.sess)) = s.ps.any fun x => x.closes && decide (x.sess = p.sess)) ∧
    ∀ y, y ≠ p.sess → Pt.asks (Pt.rest s.ps p.id) y = Pt.asks s.ps y ∧ ((Pt.rest s.ps p.id).any fun x => x.closes && decide (x.sess = y)) = s.ps.any fun x => x.closes && decide (x.sess = y) := by
  have hsplit : ∀ (l : List Pt.Pr), l.Pairwise (fun p q => p.id ≠ q.id) → p ∈ l → ∀ g : Pt.Pr → Bool, l.countP g = (if g p = true then 1 else 0) + (Pt.rest l p.id).countP g := fun l => by
    induction l with
    | nil => intro _ h; cases h
    | cons x l ih =>
      intro hu hm g
      obtain ⟨h1, h2⟩ := List.pairwise_cons.1 hu
      rcases List.mem_cons.1 hm with rfl | hm
      · have e : Pt.rest (p :: l) p.id = l := by
          have h3 := Pt.rest_none (ps := l) (id := p.id) fun y hy e => h1 y hy e.symm
          unfold Pt.rest at h3 ⊢
          rw [List.filter_cons_of_neg (by simp)]
          exact h3
        rw [e, List.countP_cons]
        omega
      · have hne : x.id ≠ p.id := h1 p hm
        have e : Pt.rest (x :: l) p.id = x :: Pt.rest l p.id := by unfold Pt.rest; rw [List.filter_cons_of_pos (by simpa using hne)]
        rw [e, List.countP_cons, List.countP_cons, ih h2 hm g]
        omega
  have hany : ∀ g : Pt.Pr → Bool, g p = false → (Pt.rest s.ps p.id).any g = s.ps.any g := fun g hg => by
    rw [Bool.eq_iff_iff, List.any_eq_true, List.any_eq_true]
    constructor
    · rintro ⟨x, hx, h⟩
      exact ⟨x, (Pt.mem_rest.1 hx).1, h⟩
    · rintro ⟨x, hx, h⟩
      refine ⟨x, Pt.mem_rest.2 ⟨hx, fun e => ?_⟩, h⟩
      have := uniq18 hf.uniq hx hp e
      rw [this, hg] at h
      cases h
  refine ⟨fun hc => ⟨?_, ?_⟩, fun hc => ⟨?_, ?_⟩, fun y hy => ⟨?_, ?_⟩⟩
  · unfold Pt.asks
    rw [hsplit s.ps hf.uniq hp]
    simp [hc]
  · rw [List.any_eq_false]
    intro x hx h
    simp only [Bool.and_eq_true, decide_eq_true_eq] at h
    obtain ⟨h1, h2⟩ := Pt.mem_rest.1 hx
    exact h2 (by rw [hf.alone p hp hc x h1 h.2])
  · unfold Pt.asks
    rw [hsplit s.ps hf.uniq hp]
    simp [hc]
    omega
  · exact hany _ (by simp [hc])
  · unfold Pt.asks
    rw [hsplit s.ps hf.uniq hp]
    have : ¬ p.sess = y := fun e => hy e.symm
    simp [this]
  · exact hany _ (by
      have : ¬ p.sess = y := fun e => hy e.symm
      simp [this])
structure De18 (LT : Rep11) (LS : Rep17) (w0 w : World) (q : Nat) (room z wt : Int) (t : Tq.Tr) (lk : Lk.St) (fw fd fs : Lit → Option Value) (F0 F : Nat → Prop) (qt ql a b c : Nat) (Ft Fl G : Nat → Prop) (b1 : Nat) (se : Int) (u : Value) (clo : Bool) : Prop where
  pt : PtU18 LT LS w q room z wt t lk fw fd fs F qt ql a b c Ft Fl G
  box : Kept11 w F b1 [.int .i64 se, u, .bool clo] 94
  mv : Moved w0 w F0 F
  kg : ∀ k, G k → w.heap[k]? = w0.heap[k]?
  lo : ∀ k, F k → 6 ≤ k
  std : Pa.Std w
theorem De18.step {w0 : World} {F0 : Nat → Prop} {b1 : Nat} {se : Int} {u : Value} {clo : Bool} {z' wt' : Int} {t' : Tq.Tr} {lk' : Lk.St} {fs' : Lit → Option Value} {Ft' Fl' : Nat → Prop} (h : De18 LT LS w0 w q room z wt t lk fw fd fs F0 F qt ql a b c Ft Fl G b1 se u clo) (hp : PtU18 LT LS w' q room z' wt' t' lk' fw' fd' fs' F' qt ql a b c Ft' Fl' G) (hm : Moved w w' F F') (hg : ∀ k, G k → w'.heap[k]? = w.heap[k]?) : De18 LT LS w0 w' q room z' wt' t' lk' fw' fd' fs' F0 F' qt ql a b c Ft' Fl' G b1 se u clo :=
  ⟨hp, h.box.moved hm, h.mv.trans hm, fun k hk => (hg k hk).trans (h.kg k hk), fun k hk => by
    rcases hm.sub k hk with e | e
    · exact h.lo k e
    · have := h.std.size
      omega, h.std.movedP hm h.lo⟩
set_option maxRecDepth 20000 in
set_option maxHeartbeats 16000000 in
theorem dec_any18 (S : Base18 LT LS) {m : Nat} (h : LPt18 LT LS w q s F) (hf : Pt.Fit m s) (hm : m ≤ 1000) (h6 : ∀ k, F k → 6 ≤ k) (hS : Pa.Std w) (id : Int) (co : Bool) (hid : I64 id) :
    Calls Tryz.prog 15 #[dptr q, .int .i64 id, .bool co] w fun e w' => ∃ F' u, e = .returned (.tuple #[u, .int .i64 (Pt.decide_ s id co).1.2]) ∧ Rn12 w.heap.size F' w' u (Pt.decide_ s id co).1.1 ∧ LPt18 LT LS w' q (Pt.decide_ s id co).2 F' ∧ Moved w w' F F' := by
  obtain ⟨R, hR⟩ : ∃ R, R = Pt.decide_ s id co := ⟨_, rfl⟩
  rw [← hR]
  have HR : Hid (R = Pt.decide_ s id co) := hR
  have H0 : Hid (Base18 LT LS ∧ Pt.Fit m s ∧ m ≤ 1000 ∧ (∀ k, F k → 6 ≤ k) ∧ Pa.Std w ∧ I64 id ∧ keyOf Tryz.prog 2 (.int .i64 id) = some (ikey id)) := ⟨S, hf, hm, h6, hS, hid, key_i hid⟩
  obtain ⟨fw, fd, fs, qt, ql, a, b, c, Ft, Fl, G, V, hP, hW, hD, hE⟩ := h
  have H1 : Hid (PtU18 LT LS w q s.t.room s.z (Pt.wanted s : Int) s.t s.lk fw fd fs F qt ql a b c Ft Fl G ∧ IsW18 w s.ps V G fw ∧ IsD18 s.dn fd ∧ IsE18 s.ps s.cl fs) := ⟨hP, hW, hD, hE⟩
  have c4 := hP.c4
  clear S hf hm h6 hS hid hP hD hE hR
  cases hlook : Pt.look s id with
  | none =>
    have hfn : fw (ikey id) = none := by rw [hW.at_]; unfold Pt.look at hlook; rw [hlook]; rfl
    have HF : Hid ((fw (ikey id)).getD (.agg #[.int .i64 0, .slice none 0 0, .bool false]) = (.agg #[.int .i64 0, .slice none 0 0, .bool false]) ∧ (fw (ikey id)).isSome = false ∧ R = (([], 4), s)) := ⟨by rw [hfn]; rfl, by rw [hfn]; rfl, by rw [HR.out]; unfold Pt.decide_; rw [hlook]⟩
    have HB : Hid (Below w.heap.size w (w.alloc (.cells #[.int .i64 0, .slice none 0 0, .bool false] 94))) := (Below.refl _ w).alloc (Nat.le_refl _) _
    clear hlook hfn hW
    go_enter Tryz.func15, Tryz.ntmps15
    go_wp2_with (at_lookup; refine wpList_lookMok rfl _ _ 86 rfl 2 94 keyedI Tryz.underlying86 (.agg #[.int .i64 0, .slice none 0 0, .bool false]) (zeroW18 _) rfl H1.out.1.mw (.int .i64 id) (ikey id) rfl H0.out.2.2.2.2.2.2 (.agg #[.int .i64 0, .slice none 0 0, .bool false]) false HF.out.1 HF.out.2.1 ?_)
    go_wp2
    go_ret2
    rw [HF.out.2.2]
    exact ⟨F, _, rfl, ⟨none, 0, 0, rfl, rfl, Nat.le_refl _, fun _ => rfl, fun j x hx => by simp at hx⟩, ⟨fw, fd, fs, qt, ql, a, b, c, Ft, Fl, G, V, H1.out.1.below H0.out.1.t H0.out.1.l HB.out, H1.out.2.1.keep (fun k hk hl => HB.out.block k hl), H1.out.2.2.1, H1.out.2.2.2⟩, Moved.of_below F HB.out⟩
  | some p =>
    obtain ⟨hp1, hp2⟩ := Pt.look_some hlook
    obtain ⟨av, N, cc, hv, hN, hcc⟩ := hW.ops p hp1
    have hfn : fw (ikey id) = some (.agg #[.int .i64 p.sess, .slice av N cc, .bool p.closes]) := by
      rw [hW.at_]
      unfold Pt.look at hlook
      rw [hlook]
      show some (wv18 p (V p.id)) = _
      rw [hv]
      rfl
    have HF : Hid ((fw (ikey id)).getD (.agg #[.int .i64 0, .slice none 0 0, .bool false]) = .agg #[.int .i64 p.sess, .slice av N cc, .bool p.closes] ∧ (fw (ikey id)).isSome = true) := ⟨by rw [hfn]; rfl, by rw [hfn]; rfl⟩
    have HP : Hid (p ∈ s.ps ∧ p.id = id ∧ Pt.FitP p ∧ Ol w (.slice av N cc) (Pt.own p) ∧ (∀ k, (Value.slice av N cc).ownBlock = some k → Pt.own p ≠ [] → G k) ∧ Pt.look s id = some p ∧ N = (Pt.own p).length) := ⟨hp1, hp2, H0.out.2.1.ps p hp1, by rw [← hv]; exact hW.ops p hp1, fun k hk hne => hW.off p hp1 k (by rw [hv]; exact hk) hne, hlook, hN⟩
    obtain ⟨b8, hb8⟩ : ∃ x, x = w.heap.size := ⟨_, rfl⟩
    have H2 : Hid (De18 LT LS w (w.alloc (.cells #[.int .i64 p.sess, .slice av N cc, .bool p.closes] 94)) q s.t.room s.z (Pt.wanted s : Int) s.t s.lk fw fd fs F F qt ql a b c Ft Fl G b8 p.sess (.slice av N cc) p.closes) := by
      have h2 := Cm18.made H0.out.1 (se := p.sess) (av := av) (N := N) (cc := cc) (clo := p.closes) H1.out.1 b8 hb8
      exact ⟨h2.pt, h2.box, h2.mv, h2.kg, H0.out.2.2.2.1, H0.out.2.2.2.2.1.below ((Below.refl _ w).alloc (Nat.le_refl _) _)⟩
    have hwz : IntKind.wrap .i64 (s.z + 1) = s.z + 1 := by
      have h1 := H0.out.2.1.z
      have h2 := H0.out.2.2.1
      rw [IntKind.wrap_i64]
      omega
    have d2 := H2.out.pt.c2
    have f2 : (w.alloc (.cells #[.int .i64 p.sess, .slice av N cc, .bool p.closes] 94)).frozen? ⟨q, 2, none⟩ = false := H2.out.pt.blk.free 2
    have H3 : Hid (De18 LT LS w ((w.alloc (.cells #[.int .i64 p.sess, .slice av N cc, .bool p.closes] 94)).setCell ⟨q, 2, none⟩ (.int .i64 (s.z + 1))) q s.t.room (s.z + 1) (Pt.wanted s : Int) s.t s.lk fw fd fs F F qt ql a b c Ft Fl G b8 p.sess (.slice av N cc) p.closes) := by
      obtain ⟨g1, g2, g3⟩ := H2.out.pt.cell (z' := s.z + 1) (wt' := (Pt.wanted s : Int)) H0.out.1.t H0.out.1.l 2 (.int .i64 (s.z + 1)) rfl
      obtain ⟨col, hc⟩ := H2.out.pt.col
      exact H2.out.step g1 g2 fun k hk => g3 k fun e => by
        have e1 := hc.g k hk
        rw [e, hc.q] at e1
        cases e1
    have d3 := H3.out.pt.c3
    clear hlook hp1 hp2 hv hN hcc hfn hW
    go_enter Tryz.func15, Tryz.ntmps15
    go_wp2_with (at_lookup; refine wpList_lookMok rfl _ _ 86 rfl 2 94 keyedI Tryz.underlying86 (.agg #[.int .i64 0, .slice none 0 0, .bool false]) (zeroW18 _) rfl H1.out.1.mw (.int .i64 id) (ikey id) rfl H0.out.2.2.2.2.2.2 (.agg #[.int .i64 p.sess, .slice av N cc, .bool p.closes]) true HF.out.1 HF.out.2 ?_)
    rw [← hb8]
    clear d2 f2 d3 hwz hb8 c4 H2
    generalize ((w.alloc (.cells #[.int .i64 p.sess, .slice av N cc, .bool p.closes] 94)).setCell ⟨q, 2, none⟩ (.int .i64 (s.z + 1))) = w1 at *
    refine (H0.out.1.l.free ql s.lk Fl (m * 532) id w1 H3.out.pt.lo H0.out.2.1.lk (by have := H0.out.2.2.1; omega) (fun k hk => by
      obtain ⟨col, hc⟩ := H3.out.pt.col
      exact H3.out.lo k (hc.fl hk)) H3.out.std H0.out.2.2.2.2.2.1).mono ?_
    rintro e w2 ⟨Fl2, rfl, hl2, hmv⟩
    have H4 : Hid (∃ F2, De18 LT LS w w2 q s.t.room (s.z + 1) (Pt.wanted s : Int) s.t (Lk.rest s.lk id) fw fd fs F F2 qt ql a b c Ft Fl2 G b8 p.sess (.slice av N cc) p.closes) := by
      obtain ⟨F2, g1, g2, g3⟩ := H3.out.pt.lock H0.out.1.t H0.out.1.l hl2 hmv
      obtain ⟨col, hc⟩ := H3.out.pt.col
      exact ⟨F2, H3.out.step g1 g2 fun k hk => g3 k (hc.fg hk) fun e => by
        have e1 := hc.g k hk
        rw [hc.l k e] at e1
        cases e1⟩
    clear hl2 hmv H3
    obtain ⟨F2, hd4⟩ := H4.out
    have H5 : Hid (De18 LT LS w w2 q s.t.room (s.z + 1) (Pt.wanted s : Int) s.t (Lk.rest s.lk id) fw fd fs F F2 qt ql a b c Ft Fl2 G b8 p.sess (.slice av N cc) p.closes) := hd4
    clear hd4 H4
    have x0 : w2.cell? ⟨b8, 0, none⟩ = some (.int .i64 p.sess) := H5.out.box.cb.cell 0
    have x1 : w2.cell? ⟨b8, 1, none⟩ = some (.slice av N cc) := H5.out.box.cb.cell 1
    have x2 : w2.cell? ⟨b8, 2, none⟩ = some (.bool p.closes) := H5.out.box.cb.cell 2
    have HS : Hid (Pt.sumW s.ps = Pt.made (Pt.own p) + Pt.sumW (Pt.rest s.ps id) ∧ Pt.sumW s.ps ≤ 16000 ∧ Pt.asks s.ps p.sess ≤ 1000 ∧ (Pt.own p).length ≤ 16) := by
      have h1 := Pt.sumW_rest H0.out.2.1.uniq HP.out.1
      rw [HP.out.2.1] at h1
      have h2 := H0.out.2.1.wanted_le
      have h3 := asks_le18 s.ps p.sess
      have h4 := H0.out.2.1.lens.1
      have h5 := H0.out.2.2.1
      exact ⟨h1, (show Pt.sumW s.ps ≤ 16000 from Nat.le_trans h2 (by omega)), by omega, (own_le18 HP.out.2.2.1).1⟩
    have HG : Hid ((p.closes = true → Pt.asks (Pt.rest s.ps id) p.sess = Pt.asks s.ps p.sess ∧ ((Pt.rest s.ps id).any fun x => x.closes && decide (x.sess = p.sess)) = false) ∧ (p.closes = false → ((Pt.asks (Pt.rest s.ps id) p.sess : Nat) : Int) = (Pt.asks s.ps p.sess : Nat) + (-1) ∧ ((Pt.rest s.ps id).any fun x => x.closes && decide (x.sess = p.sess)) = s.ps.any fun x => x.closes && decide (x.sess = p.sess)) ∧ ∀ y, y ≠ p.sess → Pt.asks (Pt.rest s.ps id) y = Pt.asks s.ps y ∧ ((Pt.rest s.ps id).any fun x => x.closes && decide (x.sess = y)) = s.ps.any fun x => x.closes && decide (x.sess = y)) := by
      have h1 := gone_asks18 H0.out.2.1 HP.out.1
      rw [HP.out.2.1] at h1
      exact h1
    go_wp2_with fail
    refine (count_any18 H0.out.1 H5.out.pt (H1.out.2.2.2.few.mono (by have h1 := H0.out.2.1.lens; have h2 := H0.out.2.2.1; omega)) (by have := HP.out.2.2.1.sess; unfold Pt.I64p at this; unfold I64; omega) (Pt.asks s.ps p.sess) (s.ps.any fun x => x.closes && decide (x.sess = p.sess)) (decide (p.sess ∈ s.cl)) (H1.out.2.2.2.at_ p.sess) av N cc (Pt.own p) (ol_keep18 HP.out.2.2.2.1 fun hne k hk _ => H5.out.kg k (HP.out.2.2.2.2.1 k hk hne)) (by have := HS.out; omega) p.closes (-1) (Or.inr rfl) ((Pt.sumW (Pt.rest s.ps id) : Nat) : Int) (by have h1 := HS.out.1; show ((Pt.sumW (Pt.rest s.ps id) : Nat) : Int) = ((Pt.sumW s.ps : Nat) : Int) + _; omega) (by have h1 := HS.out; have h2 : Pt.wanted s = Pt.sumW s.ps := rfl; omega) (Pt.asks (Pt.rest s.ps id) p.sess) ((Pt.rest s.ps id).any fun x => x.closes && decide (x.sess = p.sess)) (fun hc => by
      obtain ⟨h1, h2⟩ := HG.out.1 hc
      exact ⟨h1, by rw [h2]; rfl⟩) (fun hc => HG.out.2.1 hc) (by have := HS.out; omega)).mono ?_
    rintro e w3 ⟨rfl, fs3, hup, hpt, hmv, hkp⟩
    have H6 : Hid (De18 LT LS w w3 q s.t.room (s.z + 1) ((Pt.sumW (Pt.rest s.ps id) : Nat) : Int) s.t (Lk.rest s.lk id) fw fd fs3 F F2 qt ql a b c Ft Fl2 G b8 p.sess (.slice av N cc) p.closes ∧ IsE18 (Pt.rest s.ps id) s.cl fs3) := by
      obtain ⟨col, hc⟩ := H5.out.pt.col
      refine ⟨H5.out.step hpt hmv fun k hk => hkp k (H5.out.pt.flt k (hc.fg hk)) (fun e => ?_) (fun e => ?_), H1.out.2.2.2.to hup fun y hy => ⟨(HG.out.2.2 y hy).1, (HG.out.2.2 y hy).2, Iff.rfl⟩⟩
      · have e1 := hc.g k hk
        rw [e, hc.q] at e1
        cases e1
      · have e1 := hc.g k hk
        rw [e, hc.c] at e1
        cases e1
    clear hup hpt hmv hkp x0 x1 x2 H5
    have e4 := H6.out.1.pt.c4
    obtain ⟨fw4, hfw4⟩ := Up.some_is fw (ikey id) none
    have HU4 : Hid (Up fw (ikey id) none fw4) := hfw4
    clear hfw4
    go_wp2_with (at_delete; refine wpList_dropM rfl _ _ 86 2 rfl 94 keyedI Tryz.underlying86 rfl H6.out.1.pt.mw (.int .i64 id) (ikey id) rfl H0.out.2.2.2.2.2.2 HU4.out ?_)
    intro w4 hm ht
    have H7 : Hid (De18 LT LS w w4 q s.t.room (s.z + 1) ((Pt.sumW (Pt.rest s.ps id) : Nat) : Int) s.t (Lk.rest s.lk id) fw4 fd fs3 F F2 qt ql a b c Ft Fl2 G b8 p.sess (.slice av N cc) p.closes) := by
      obtain ⟨g1, g2, g3⟩ := H6.out.1.pt.turn_w H0.out.1.t H0.out.1.l ht hm
      obtain ⟨col, hc⟩ := H6.out.1.pt.col
      exact H6.out.1.step g1 g2 fun k hk => g3 k (H6.out.1.pt.flt k (hc.fg hk)) fun e => by
        have e1 := hc.g k hk
        rw [e, hc.a] at e1
        cases e1
    have HE6 : Hid (IsE18 (Pt.rest s.ps id) s.cl fs3) := H6.out.2
    clear hm ht e4 H6
    have e5 := H7.out.pt.c5
    obtain ⟨fd5, hfd5⟩ := Up.some_is fd (ikey id) (some (.agg #[]))
    have HU5 : Hid (Up fd (ikey id) (some (.agg #[])) fd5) := hfd5
    clear hfd5
    go_wp2_with (at_mapUpdate; refine wpList_storeM rfl _ _ _ 87 rfl 2 103 keyedI Tryz.underlying87 rfl H7.out.pt.md (H1.out.2.2.1.few.mono (by have h1 := H0.out.2.1.lens; have h2 := H0.out.2.2.1; omega : _ ≤ 4000)) (by decide) (.int .i64 id) (.agg #[]) (ikey id) rfl rfl H0.out.2.2.2.2.2.2 HU5.out ?_)
    intro w5 hm ht
    have H8 : Hid (De18 LT LS w w5 q s.t.room (s.z + 1) ((Pt.sumW (Pt.rest s.ps id) : Nat) : Int) s.t (Lk.rest s.lk id) fw4 fd5 fs3 F F2 qt ql a b c Ft Fl2 G b8 p.sess (.slice av N cc) p.closes) := by
      obtain ⟨g1, g2, g3⟩ := H7.out.pt.turn_d H0.out.1.t H0.out.1.l ht hm
      obtain ⟨col, hc⟩ := H7.out.pt.col
      exact H7.out.step g1 g2 fun k hk => g3 k (H7.out.pt.flt k (hc.fg hk)) fun e => by
        have e1 := hc.g k hk
        rw [e, hc.b] at e1
        cases e1
    clear hm ht e5 H7
    have HI : Hid (∀ (w9 : World), (∀ k, G k → w9.heap[k]? = w.heap[k]?) → IsW18 w9 (Pt.rest s.ps id) V G fw4 ∧ IsD18 (s.dn ++ [id]) fd5) := fun w9 hk => ⟨H1.out.2.1.gone HU4.out fun k hg _ => hk k hg, H1.out.2.2.1.snoc HU5.out⟩
    cases co with
    | false =>
      have HT : Hid (R = (([], 0), Pt.gone s id)) := (show R = _ by rw [HR.out]; unfold Pt.decide_; rw [HP.out.2.2.2.2.2.1]; rfl)
      go_wp2
      go_ret2
      rw [HT.out]
      obtain ⟨g1, g2⟩ := HI.out _ H8.out.kg
      exact ⟨F2, _, rfl, ⟨none, 0, 0, rfl, rfl, Nat.le_refl _, fun _ => rfl, fun j x hx => by simp at hx⟩, ⟨fw4, fd5, fs3, qt, ql, a, b, c, Ft, Fl2, G, V, H8.out.pt, g1, g2, HE6.out⟩, H8.out.mv⟩
    | true =>
      have x0 : w5.cell? ⟨b8, 0, none⟩ = some (.int .i64 p.sess) := H8.out.box.cb.cell 0
      have x1 : w5.cell? ⟨b8, 1, none⟩ = some (.slice av N cc) := H8.out.box.cb.cell 1
      have x2 : w5.cell? ⟨b8, 2, none⟩ = some (.bool p.closes) := H8.out.box.cb.cell 2
      have hse : I64 p.sess := by have := HP.out.2.2.1.sess; unfold Pt.I64p at this; unfold I64; omega
      cases hcl : p.closes with
      | true =>
        rw [hcl] at x2
        have HT : Hid (R = (([], 0), { Pt.gone s id with t := Tq.drops s.t (Tq.ofs s.t p.sess), cl := s.cl ++ [p.sess] })) := (show R = _ by rw [HR.out]; unfold Pt.decide_; rw [HP.out.2.2.2.2.2.1]; simp only [hcl]; rfl)
        have HA : Hid (Pt.asks (Pt.rest s.ps id) p.sess = 0 ∧ ((Pt.rest s.ps id).any fun x => x.closes && decide (x.sess = p.sess)) = false) := by
          obtain ⟨h1, h2⟩ := HG.out.1 hcl
          refine ⟨?_, h2⟩
          rw [h1]
          unfold Pt.asks
          rw [List.countP_eq_zero]
          intro x hx hc
          simp only [Bool.and_eq_true, decide_eq_true_eq, Bool.not_eq_true'] at hc
          have := H0.out.2.1.alone p HP.out.1 hcl x hx hc.2
          rw [this, hcl] at hc
          cases hc.1
        have HC : Hid (Calls Tryz.prog 55 #[dptr q, .agg #[.int .i64 p.sess, .slice av N cc, .bool true]] w5 fun e w' => e = .returned (.slice none 0 0) ∧ ∃ fs' F' Ft', Up fs3 (ikey p.sess) (some (.agg #[.int .i64 0, .bool false, .bool true])) fs' ∧ PtU18 LT LS w' q s.t.room (s.z + 1) ((Pt.sumW (Pt.rest s.ps id) : Nat) : Int) (Tq.drops s.t (Tq.ofs s.t p.sess)) (Lk.rest s.lk id) fw4 fd5 fs' F' qt ql a b c Ft' Fl2 G ∧ Moved w5 w' F2 F' ∧ ∀ k, G k → w'.heap[k]? = w5.heap[k]?) := commit_close18 H0.out.1 H8.out.pt H0.out.2.1.well (HE6.out.few.mono (by have h1 := H0.out.2.1.lens; have h2 := H0.out.2.2.1; have h3 : (Pt.rest s.ps id).length ≤ s.ps.length := List.length_filter_le _ _; omega)) hse H8.out.lo H8.out.std av N cc
        clear hcl hse
        go_wp2_with fail
        refine HC.out.mono ?_
        rintro e w6 ⟨rfl, fs6, F6, Ft6, hup, hpt, hmv, hkg⟩
        have H9 : Hid (PtU18 LT LS w6 q s.t.room (s.z + 1) ((Pt.sumW (Pt.rest s.ps id) : Nat) : Int) (Tq.drops s.t (Tq.ofs s.t p.sess)) (Lk.rest s.lk id) fw4 fd5 fs6 F6 qt ql a b c Ft6 Fl2 G ∧ Moved w w6 F F6 ∧ (∀ k, G k → w6.heap[k]? = w.heap[k]?) ∧ IsE18 (Pt.rest s.ps id) (s.cl ++ [p.sess]) fs6) := by
          refine ⟨hpt, H8.out.mv.trans hmv, fun k hk => (hkg k hk).trans (H8.out.kg k hk), HE6.out.to (se := p.sess) ?_ fun y hy => ⟨rfl, rfl, by simp [hy]⟩⟩
          rw [HA.out.1, HA.out.2, show decide (p.sess ∈ s.cl ++ [p.sess]) = true by simp]
          exact hup
        clear hup hpt hmv hkg x0 x1 x2 HC
        go_wp2
        go_ret2
        rw [HT.out]
        obtain ⟨g1, g2⟩ := HI.out _ H9.out.2.2.1
        refine ⟨F6, _, rfl, ⟨none, 0, 0, rfl, rfl, Nat.le_refl _, fun _ => rfl, fun j x hx => by simp at hx⟩, ⟨fw4, fd5, fs6, qt, ql, a, b, c, Ft6, Fl2, G, V, ?_, g1, g2, H9.out.2.2.2⟩, H9.out.2.1⟩
        have e : (Tq.drops s.t (Tq.ofs s.t p.sess)).room = s.t.room := Tq.room_drops18
        show PtU18 LT LS w6 q (Tq.drops s.t (Tq.ofs s.t p.sess)).room _ _ _ _ _ _ _ _ _ _ _ _ _ _ _ _
        rw [e]
        exact H9.out.1
      | false =>
        rw [hcl] at x2
        cases hfa : p.fails with
        | true =>
          have hown : Pt.own p = [] := by unfold Pt.own; rw [hfa]; rfl
          have hN0 : N = 0 := by rw [HP.out.2.2.2.2.2.2, hown]; rfl
          subst hN0
          have HT : Hid (R = (([], 0), Pt.gone s id)) := (show R = _ by rw [HR.out]; unfold Pt.decide_; rw [HP.out.2.2.2.2.2.1]; simp [hcl, hfa])
          clear hcl hfa hown hse
          go_wp2_with fail
          refine (commit_none18 w5 q p.sess av cc).mono ?_
          rintro e w6 ⟨rfl, hb⟩
          have H9 : Hid (De18 LT LS w w6 q s.t.room (s.z + 1) ((Pt.sumW (Pt.rest s.ps id) : Nat) : Int) s.t (Lk.rest s.lk id) fw4 fd5 fs3 F F2 qt ql a b c Ft Fl2 G b8 p.sess (.slice av 0 cc) p.closes) := by
            obtain ⟨col, hc⟩ := H8.out.pt.col
            exact H8.out.step (H8.out.pt.below H0.out.1.t H0.out.1.l hb) (Moved.of_below F2 hb) fun k hk => hb.block k (H8.out.pt.flt k (hc.fg hk))
          clear hb x0 x1 x2 H8
          go_wp2
          go_ret2
          rw [HT.out]
          obtain ⟨g1, g2⟩ := HI.out _ H9.out.kg
          exact ⟨F2, _, rfl, ⟨none, 0, 0, rfl, rfl, Nat.le_refl _, fun _ => rfl, fun j x hx => by simp at hx⟩, ⟨fw4, fd5, fs3, qt, ql, a, b, c, Ft, Fl2, G, V, H9.out.pt, g1, g2, HE6.out⟩, H9.out.mv⟩
        | false =>
          have hown : Pt.own p = p.ops := by unfold Pt.own; rw [hfa]; rfl
          have HO : Hid (Pt.own p = p.ops ∧ Oq.may p.sess 1 p.ops = 0 ∧ ∀ o ∈ p.ops, OFit o) := ⟨hown, HP.out.2.2.1.ops hcl⟩
          have HT : Hid (R = (((Tq.many s.t p.sess (s.z + 1) p.ops).1.1.xs, 0), { Pt.gone s id with t := (Tq.many s.t p.sess (s.z + 1) p.ops).2 })) := (show R = _ by rw [HR.out]; unfold Pt.decide_; rw [HP.out.2.2.2.2.2.1]; simp [hcl, hfa])
          have HOL : Hid (Ol w5 (.slice av N cc) p.ops ∧ ∀ k, (Value.slice av N cc).ownBlock = some k → p.ops ≠ [] → G k) := by
            have h1 := HP.out.2.2.2.1
            have h2 := HP.out.2.2.2.2.1
            rw [hown] at h1 h2
            exact ⟨ol_keep18 h1 fun hne k hk _ => H8.out.kg k (h2 k hk hne), h2⟩
          clear hcl hfa hown hse
          go_wp2_with fail
          refine (commit_ops18 H0.out.1 H8.out.pt H0.out.2.1.well H8.out.lo H8.out.std av N cc p.ops HOL.out.1 HOL.out.2 (Pt.may_ok HO.out.2.1).2.2.1 (Pt.may_ok HO.out.2.1).2.2.2.1 HO.out.2.2).mono ?_
          rintro e w6 ⟨u, F6, Ft6, rfl, hrn, hpt, hmv, hkg⟩
          have hrn2 := hrn
          obtain ⟨ua, uk, uc, rfl, huk, _⟩ := hrn2
          subst huk
          have H9 : Hid (PtU18 LT LS w6 q s.t.room (s.z + 1) ((Pt.sumW (Pt.rest s.ps id) : Nat) : Int) (Tq.many s.t p.sess (s.z + 1) p.ops).2 (Lk.rest s.lk id) fw4 fd5 fs3 F6 qt ql a b c Ft6 Fl2 G ∧ Moved w w6 F F6 ∧ (∀ k, G k → w6.heap[k]? = w.heap[k]?) ∧ Rn12 w.heap.size F6 w6 (.slice ua (Tq.many s.t p.sess (s.z + 1) p.ops).1.1.xs.length uc) (Tq.many s.t p.sess (s.z + 1) p.ops).1.1.xs) := ⟨hpt, H8.out.mv.trans hmv, fun k hk => (hkg k hk).trans (H8.out.kg k hk), hrn.low H8.out.mv.size⟩
          clear hrn hpt hmv hkg x0 x1 x2
          go_wp2
          go_ret2
          rw [HT.out]
          obtain ⟨g1, g2⟩ := HI.out _ H9.out.2.2.1
          refine ⟨F6, _, rfl, H9.out.2.2.2, ⟨fw4, fd5, fs3, qt, ql, a, b, c, Ft6, Fl2, G, V, ?_, g1, g2, HE6.out⟩, H9.out.2.1⟩
          have e : (Tq.many s.t p.sess (s.z + 1) p.ops).2.room = s.t.room := Tq.room_many18 _ _ _ _
          show PtU18 LT LS w6 q (Tq.many s.t p.sess (s.z + 1) p.ops).2.room _ _ _ _ _ _ _ _ _ _ _ _ _ _ _ _
          rw [e]
          exact H9.out.1
end
end Go.Proofs.YtboejbjobjhajaaGreatDoor
