/- What the landed share's prepare leaves. -/
import Derived.Test.YtboejbjobjhajaaGreatDoorWPp18
namespace Go.Proofs.YtboejbjobjhajaaGreatDoor
open Go.RowKit
theorem IsW18.few {w : World} {ps : List Pt.Pr} {V : Int → Value} {G : Nat → Prop} {f : Lit → Option Value} (h : IsW18 w ps V G f) : Few f ps.length := few_of ps (fun p => ikey p.id) fun kl hk => by
  obtain ⟨z, rfl⟩ := h.key kl hk
  rw [h.at_, Option.isSome_map] at hk
  obtain ⟨p, hp⟩ := Option.isSome_iff_exists.1 hk
  exact ⟨p, List.mem_of_find?_eq_some hp, by rw [show p.id = z by simpa using List.find?_some hp]⟩
theorem IsD18.few {dn : List Int} {f : Lit → Option Value} (h : IsD18 dn f) : Few f dn.length := few_of dn ikey fun kl hk => by
  obtain ⟨z, rfl⟩ := h.key kl hk
  rw [h.at_] at hk
  by_cases e : z ∈ dn
  · exact ⟨z, e, rfl⟩
  · rw [if_neg e] at hk; cases hk
theorem IsE18.few {ps : List Pt.Pr} {cl : List Int} {f : Lit → Option Value} (h : IsE18 ps cl f) : Few f (ps.length + cl.length) := by
  have h1 := few_of (f := f) (ps.map (·.sess) ++ cl) ikey fun kl hk => by
    obtain ⟨z, rfl⟩ := h.key kl hk
    rw [h.at_] at hk
    refine ⟨z, ?_, rfl⟩
    unfold sq18 at hk
    split at hk
    · cases hk
    · rename_i hn
      by_cases e : z ∈ cl
      · simp [e]
      · rw [List.mem_append, List.mem_map]
        refine Or.inl (Classical.byContradiction fun hno => hn ⟨?_, ?_, by simp [e]⟩)
        · unfold Pt.asks
          rw [List.countP_eq_zero]
          intro p hp hc
          simp only [Bool.and_eq_true, decide_eq_true_eq] at hc
          exact hno ⟨p, hp, hc.2⟩
        · rw [List.any_eq_false]
          intro p hp hc
          simp only [Bool.and_eq_true, decide_eq_true_eq] at hc
          exact hno ⟨p, hp, hc.2⟩
  rw [List.length_append, List.length_map] at h1
  exact h1
theorem own_le18 {p : Pt.Pr} (h : Pt.FitP p) : (Pt.own p).length ≤ 16 ∧ ∀ o ∈ Pt.own p, Oq.good o = 0 := by
  unfold Pt.own
  split
  · exact ⟨Nat.zero_le _, fun o ho => by cases ho⟩
  · cases hc : p.closes with
    | true => rw [(h.none_ hc).1]; exact ⟨Nat.zero_le _, fun o ho => by cases ho⟩
    | false => exact ⟨(Pt.may_ok (h.ops hc).1).2.2.2.1, Pt.may_good (h.ops hc).1⟩
theorem sumW_le18 : ∀ {ps : List Pt.Pr}, (∀ p ∈ ps, Pt.FitP p) → Pt.sumW ps ≤ 16 * ps.length
  | [], _ => Nat.le_refl _
  | p :: ps, h => by
    have h1 := sumW_le18 (ps := ps) fun x hx => h x (by simp [hx])
    have h2 := Nat.le_trans (made_le18 (Pt.own p)) (own_le18 (h p (by simp))).1
    have e : Pt.sumW (p :: ps) = Pt.made (Pt.own p) + Pt.sumW ps := by unfold Pt.sumW; rw [List.map_cons, List.sum_cons]
    rw [e, List.length_cons]
    omega
theorem Pt.Fit.wanted_le {n : Nat} {s : Pt.St} (h : Pt.Fit n s) : Pt.wanted s ≤ 16 * n := by
  have h1 := sumW_le18 h.ps
  have h2 := h.lens.1
  show Pt.sumW s.ps ≤ _
  omega
theorem asks_le18 (ps : List Pt.Pr) (z : Int) : Pt.asks ps z ≤ ps.length := List.countP_le_length
section
variable {LT : Rep11} {LS : Rep17} {w w' : World} {q : Nat} {room z wt wt' : Int} {t : Tq.Tr} {lk : Lk.St} {fw fd fs fw' fs' : Lit → Option Value} {F : Nat → Prop} {qt ql a b c : Nat} {Ft Fl G : Nat → Prop} {ps : List Pt.Pr} {cl : List Int} {V : Int → Value} {p : Pt.Pr} {u : Value}
theorem IsW18.snoc (h : IsW18 w ps V G fw) (hn : ∀ x ∈ ps, x.id ≠ p.id) (hu : Up fw (ikey p.id) (some (wv18 p u)) fw') (ho : Ol w' u (Pt.own p)) (hoff : ∀ k, u.ownBlock = some k → Pt.own p ≠ [] → G k) (hk : ∀ k, G k → k < w.heap.size → w'.heap[k]? = w.heap[k]?) : IsW18 w' (ps ++ [p]) (fun z => if z = p.id then u else V z) G fw' := by
  have h2 := h.keep hk
  refine ⟨fun z => ?_, fun kl hkl => ?_, fun x hx => ?_, fun x hx k hk2 hne => ?_⟩
  · rw [List.find?_append]
    by_cases e : z = p.id
    · subst e
      rw [hu.same, List.find?_eq_none.2 (fun x hx => by simpa using hn x hx)]
      simp
    · rw [hu.other _ (fun e2 => e (ikey_inj e2)), h.at_]
      have e1 : [p].find? (fun x => decide (x.id = z)) = none := by simp; exact fun e2 => e e2.symm
      rw [e1, Option.or_none]
      cases hf : ps.find? fun x => decide (x.id = z) with
      | none => rfl
      | some x =>
        have e2 : x.id = z := by simpa using List.find?_some hf
        show some (wv18 x (V x.id)) = some (wv18 x (if x.id = p.id then u else V x.id))
        rw [if_neg (by rw [e2]; exact e)]
  · by_cases e : kl = ikey p.id
    · exact ⟨_, e⟩
    · rw [hu.other _ e] at hkl
      exact h.key kl hkl
  · rcases List.mem_append.1 hx with hx | hx
    · simp only [if_neg (hn x hx)]
      exact h2.ops x hx
    · rw [List.mem_singleton.1 hx]
      simp only [if_pos]
      exact ho
  · rcases List.mem_append.1 hx with hx | hx
    · simp only [if_neg (hn x hx)] at hk2
      exact h.off x hx k hk2 hne
    · rw [List.mem_singleton.1 hx] at hk2 hne
      simp only [if_pos] at hk2
      exact hoff k hk2 hne
theorem IsE18.to (h : IsE18 ps cl fs) {ps' : List Pt.Pr} {cl' : List Int} {se : Int} (hu : Up fs (ikey se) (sq18 (Pt.asks ps' se) (ps'.any fun p => p.closes && decide (p.sess = se)) (decide (se ∈ cl'))) fs') (ho : ∀ z, z ≠ se → Pt.asks ps' z = Pt.asks ps z ∧ (ps'.any fun p => p.closes && decide (p.sess = z)) = (ps.any fun p => p.closes && decide (p.sess = z)) ∧ (z ∈ cl' ↔ z ∈ cl)) : IsE18 ps' cl' fs' := by
  refine ⟨fun z => ?_, fun kl hkl => ?_⟩
  · by_cases e : z = se
    · rw [e, hu.same]
    · obtain ⟨h1, h2, h3⟩ := ho z e
      rw [hu.other _ (fun e2 => e (ikey_inj e2)), h.at_, h1, h2]
      simp [h3]
  · by_cases e : kl = ikey se
    · exact ⟨_, e⟩
    · rw [hu.other _ e] at hkl
      exact h.key kl hkl
set_option maxRecDepth 20000 in
set_option maxHeartbeats 8000000 in
theorem prepare_any18 (S : Base18 LT LS) {m : Nat} {s : Pt.St} (h : PtU18 LT LS w q room z (Pt.wanted s : Int) t lk fw fd fs F qt ql a b c Ft Fl G) (hw : IsW18 w s.ps V G fw) (he : IsE18 s.ps s.cl fs) (hps : ∀ x ∈ s.ps, Pt.FitP x) (hlen : s.ps.length ≤ m ∧ s.cl.length ≤ m) (hm : m ≤ 1000) (hp : Pt.FitP p) (hn : ∀ x ∈ s.ps, x.id ≠ p.id) (av : Option Addr) (N cc : Nat) (hu : Ol w (.slice av N cc) (Pt.own p)) (hoff : ∀ k, (Value.slice av N cc).ownBlock = some k → Pt.own p ≠ [] → G k) :
    Calls Tryz.prog 51 #[dptr q, .int .i64 p.id, .agg #[.int .i64 p.sess, .slice av N cc, .bool p.closes]] w fun e w' => e = .returned (.tuple #[]) ∧ ∃ fw' fs' V', PtU18 LT LS w' q room z ((Pt.sumW (s.ps ++ [p]) : Nat) : Int) t lk fw' fd fs' F qt ql a b c Ft Fl G ∧ IsW18 w' (s.ps ++ [p]) V' G fw' ∧ IsE18 (s.ps ++ [p]) s.cl fs' ∧ Moved w w' F F := by
  have hid : I64 p.id := by have := hp.id; unfold Pt.I64p at this; unfold I64; omega
  have hse : I64 p.sess := by have := hp.sess; unfold Pt.I64p at this; unfold I64; omega
  obtain ⟨b1, hb1⟩ : ∃ b, b = w.heap.size := ⟨_, rfl⟩
  have H0 : Hid (Base18 LT LS ∧ IsW18 w s.ps V G fw ∧ IsE18 s.ps s.cl fs ∧ (∀ x ∈ s.ps, Pt.FitP x) ∧ (s.ps.length ≤ 1000 ∧ s.cl.length ≤ 1000) ∧ Pt.FitP p ∧ (∀ x ∈ s.ps, x.id ≠ p.id) ∧ Ol w (.slice av N cc) (Pt.own p) ∧ (∀ k, (Value.slice av N cc).ownBlock = some k → Pt.own p ≠ [] → G k) ∧ keyOf Tryz.prog 2 (.int .i64 p.id) = some (ikey p.id) ∧ I64 p.sess) := ⟨S, hw, he, hps, ⟨by omega, by omega⟩, hp, hn, hu, hoff, key_i hid, hse⟩
  have H1 : Hid (PtU18 LT LS (w.alloc (.cells #[.int .i64 p.sess, .slice av N cc, .bool p.closes] 94)) q room z (Pt.wanted s : Int) t lk fw fd fs F qt ql a b c Ft Fl G ∧ Cb (w.alloc (.cells #[.int .i64 p.sess, .slice av N cc, .bool p.closes] 94)) b1 [.int .i64 p.sess, .slice av N cc, .bool p.closes] 94 ∧ Below w.heap.size w (w.alloc (.cells #[.int .i64 p.sess, .slice av N cc, .bool p.closes] 94)) ∧ ∀ k, F k → k < b1) := by
    have hb := (Below.refl w.heap.size w).alloc (Nat.le_refl _) (.cells #[.int .i64 p.sess, .slice av N cc, .bool p.closes] 94)
    exact ⟨h.below S.t S.l hb, by rw [hb1]; exact Cb.made w _ _, hb, by rw [hb1]; exact h.flt⟩
  clear S h hw he hps hlen hm hp hn hu hoff hid hse
  go_enter Tryz.func51, Tryz.ntmps51
  go_upto_region 1 with fail
  rw [← hb1]
  clear hb1
  generalize w.alloc (.cells #[.int .i64 p.sess, .slice av N cc, .bool p.closes] 94) = w1 at *
  refine wp_region_T (fun w' => Below w1.heap.size w1 w') 6 (by kernel_rfl) ?_
  have H2 : Hid (Below w1.heap.size w1 w1.drew) := (Below.refl _ w1).drew
  generalize w1.drew = w2 at *
  refine' take_T (i := 0) (d := 6) (v := _) rfl rfl (by kernel_rfl) (by kernel_rfl) (by kernel_rfl) (by kernel_rfl) (by kernel_rfl) (fun _ _ _ h => h) (Or.inl ⟨by rfl, ?h0⟩) (H2.out) ?_
  case h0 =>
    intro w hSw
    have t1 := Below.kept hSw H1.out.1.c4
    have t2 : w.cell? ⟨b1, 0, none⟩ = some (.int .i64 p.sess) := Below.kept hSw (H1.out.2.1.cell 0)
    have t3 : w.cell? ⟨b1, 1, none⟩ = some (.slice av N cc) := Below.kept hSw (H1.out.2.1.cell 1)
    have t4 : w.cell? ⟨b1, 2, none⟩ = some (.bool p.closes) := Below.kept hSw (H1.out.2.1.cell 2)
    go_simp
    with_reducible rfl
  simp only [List.setIfInBounds_toArray, List.set_cons_zero, List.set_cons_succ]
  refine' take_T (i := 1) (d := 7) (v := _) rfl rfl (by kernel_rfl) (by kernel_rfl) (by kernel_rfl) (by kernel_rfl) (by kernel_rfl) (fun _ _ _ h => h) (Or.inl ⟨by rfl, ?h1⟩) (H2.out) ?_
  case h1 =>
    intro w hSw
    have t1 := Below.kept hSw H1.out.1.c4
    have t2 : w.cell? ⟨b1, 0, none⟩ = some (.int .i64 p.sess) := Below.kept hSw (H1.out.2.1.cell 0)
    have t3 : w.cell? ⟨b1, 1, none⟩ = some (.slice av N cc) := Below.kept hSw (H1.out.2.1.cell 1)
    have t4 : w.cell? ⟨b1, 2, none⟩ = some (.bool p.closes) := Below.kept hSw (H1.out.2.1.cell 2)
    go_simp
    with_reducible rfl
  simp only [List.setIfInBounds_toArray, List.set_cons_zero, List.set_cons_succ]
  refine' take_T (i := 2) (d := 8) (v := _) rfl rfl (by kernel_rfl) (by kernel_rfl) (by kernel_rfl) (by kernel_rfl) (by kernel_rfl) (fun _ _ _ h => h) (Or.inl ⟨by rfl, ?h2⟩) (H2.out) ?_
  case h2 =>
    intro w hSw
    have t1 := Below.kept hSw H1.out.1.c4
    have t2 : w.cell? ⟨b1, 0, none⟩ = some (.int .i64 p.sess) := Below.kept hSw (H1.out.2.1.cell 0)
    have t3 : w.cell? ⟨b1, 1, none⟩ = some (.slice av N cc) := Below.kept hSw (H1.out.2.1.cell 1)
    have t4 : w.cell? ⟨b1, 2, none⟩ = some (.bool p.closes) := Below.kept hSw (H1.out.2.1.cell 2)
    go_simp
    with_reducible rfl
  simp only [List.setIfInBounds_toArray, List.set_cons_zero, List.set_cons_succ]
  refine' take_T (i := 3) (d := 9) (v := _) rfl rfl (by kernel_rfl) (by kernel_rfl) (by kernel_rfl) (by kernel_rfl) (by kernel_rfl) (fun _ _ _ h => h) (Or.inl ⟨by rfl, ?h3⟩) (H2.out) ?_
  case h3 =>
    intro w hSw
    have t1 := Below.kept hSw H1.out.1.c4
    have t2 : w.cell? ⟨b1, 0, none⟩ = some (.int .i64 p.sess) := Below.kept hSw (H1.out.2.1.cell 0)
    have t3 : w.cell? ⟨b1, 1, none⟩ = some (.slice av N cc) := Below.kept hSw (H1.out.2.1.cell 1)
    have t4 : w.cell? ⟨b1, 2, none⟩ = some (.bool p.closes) := Below.kept hSw (H1.out.2.1.cell 2)
    go_simp
    with_reducible rfl
  simp only [List.setIfInBounds_toArray, List.set_cons_zero, List.set_cons_succ]
  refine' take_T (i := 4) (d := 10) (v := _) rfl rfl (by kernel_rfl) (by kernel_rfl) (by kernel_rfl) (by kernel_rfl) (by kernel_rfl) (fun _ _ _ h => h) (Or.inl ⟨by rfl, ?h4⟩) (H2.out) ?_
  case h4 =>
    intro w hSw
    have t1 := Below.kept hSw H1.out.1.c4
    have t2 : w.cell? ⟨b1, 0, none⟩ = some (.int .i64 p.sess) := Below.kept hSw (H1.out.2.1.cell 0)
    have t3 : w.cell? ⟨b1, 1, none⟩ = some (.slice av N cc) := Below.kept hSw (H1.out.2.1.cell 1)
    have t4 : w.cell? ⟨b1, 2, none⟩ = some (.bool p.closes) := Below.kept hSw (H1.out.2.1.cell 2)
    go_simp
    with_reducible rfl
  simp only [List.setIfInBounds_toArray, List.set_cons_zero, List.set_cons_succ]
  refine' take_T (i := 5) (d := 11) (v := _) rfl rfl (by kernel_rfl) (by kernel_rfl) (by kernel_rfl) (by kernel_rfl) (by kernel_rfl) (fun _ _ _ h => h) (Or.inl ⟨by rfl, ?h5⟩) (H2.out) ?_
  case h5 =>
    intro w hSw
    have t1 := Below.kept hSw H1.out.1.c4
    have t2 : w.cell? ⟨b1, 0, none⟩ = some (.int .i64 p.sess) := Below.kept hSw (H1.out.2.1.cell 0)
    have t3 : w.cell? ⟨b1, 1, none⟩ = some (.slice av N cc) := Below.kept hSw (H1.out.2.1.cell 1)
    have t4 : w.cell? ⟨b1, 2, none⟩ = some (.bool p.closes) := Below.kept hSw (H1.out.2.1.cell 2)
    go_simp
    with_reducible rfl
  simp only [List.setIfInBounds_toArray, List.set_cons_zero, List.set_cons_succ]
  have H3 : Hid (PtU18 LT LS w2 q room z (Pt.wanted s : Int) t lk fw fd fs F qt ql a b c Ft Fl G ∧ Cb w2 b1 [.int .i64 p.sess, .slice av N cc, .bool p.closes] 94 ∧ Below w.heap.size w w2 ∧ ∀ k, F k → k < b1) := ⟨H1.out.1.below H0.out.1.t H0.out.1.l H2.out, H1.out.2.1.below H2.out, H1.out.2.2.1.trans (H2.out.mono H1.out.2.2.1.size), H1.out.2.2.2⟩
  obtain ⟨fw1, hfw1⟩ := Up.some_is fw (ikey p.id) (some (.agg #[.int .i64 p.sess, .slice av N cc, .bool p.closes]))
  have HU : Hid (Up fw (ikey p.id) (some (.agg #[.int .i64 p.sess, .slice av N cc, .bool p.closes])) fw1) := hfw1
  clear hfw1 H1 H2
  refine wpAnyT_ready (rs := [6]) (by kernel_rfl) (by simp) ?_
  refine AllReadyT.cons (o := _) rfl (fun KQ hKQ => ?_) AllReadyT.nil
  refine wp_storeM (.tmp 9) (.tmp 10) (.tmp 11) 86 rfl 2 94 keyedI Tryz.underlying86 rfl H3.out.1.mw (H0.out.2.1.few.mono H0.out.2.2.2.2.1.1) (by decide) (.int .i64 p.id) (.agg #[.int .i64 p.sess, .slice av N cc, .bool p.closes]) (ikey p.id) rfl rfl H0.out.2.2.2.2.2.2.2.2.2.1 HU.out ?_
  intro w3 hm ht
  obtain ⟨g1, g2, g3⟩ := H3.out.1.turn_w H0.out.1.t H0.out.1.l ht hm
  have H4 : Hid (PtU18 LT LS w3 q room z (Pt.wanted s : Int) t lk fw1 fd fs F qt ql a b c Ft Fl G ∧ Cb w3 b1 [.int .i64 p.sess, .slice av N cc, .bool p.closes] 94 ∧ Moved w w3 F F ∧ (∀ k, k < w.heap.size → k ≠ a → w3.heap[k]? = w.heap[k]?) ∧ w.heap.size ≤ w3.heap.size) := by
    obtain ⟨col, hc⟩ := H3.out.1.col
    have hs := H3.out.2.2.1.size
    refine ⟨g1, H3.out.2.1.keep (g3 b1 H3.out.2.1.lt (fun e => by have := H3.out.2.2.2 a hc.fa; omega)), (Moved.of_below F H3.out.2.2.1).trans g2, fun k hk hne => (g3 k (by omega) hne).trans (H3.out.2.2.1.block k hk), by have := g2.size; omega⟩
  clear hm ht g1 g2 g3 H3
  refine hKQ.out _ _ (fun h => absurd rfl h) ?_
  clear hKQ KQ
  refine wpAnyT_done (by kernel_rfl) ?_ _
  have x0 : w3.cell? ⟨b1, 0, none⟩ = some (.int .i64 p.sess) := H4.out.2.1.cell 0
  have x1 : w3.cell? ⟨b1, 1, none⟩ = some (.slice av N cc) := H4.out.2.1.cell 1
  have x2 : w3.cell? ⟨b1, 2, none⟩ = some (.bool p.closes) := H4.out.2.1.cell 2
  have HO3 : Hid (Ol w3 (.slice av N cc) (Pt.own p)) := (show Ol w3 (.slice av N cc) (Pt.own p) by
    obtain ⟨col, hc⟩ := H4.out.1.col
    exact ol_keep18 H0.out.2.2.2.2.2.2.2.1 fun hne k hk hl => H4.out.2.2.2.1 k hl (fun e => by
      have h1 := hc.g k (H0.out.2.2.2.2.2.2.2.2.1 k hk hne)
      rw [e, hc.a] at h1
      cases h1))
  have HS : Hid ((Pt.sumW (s.ps ++ [p]) = Pt.wanted s + Pt.made (Pt.own p)) ∧ Pt.wanted s ≤ 16000 ∧ Pt.made (Pt.own p) ≤ 16 ∧ (Pt.own p).length ≤ 16 ∧ Pt.asks s.ps p.sess ≤ 1000) := ⟨by rw [Pt.sumW_app]; show Pt.sumW s.ps + Pt.sumW [p] = Pt.sumW s.ps + _; simp [Pt.sumW], by have h1 := sumW_le18 H0.out.2.2.2.1; have h2 := H0.out.2.2.2.2.1.1; show Pt.sumW s.ps ≤ _; omega, Nat.le_trans (made_le18 _) (own_le18 H0.out.2.2.2.2.2.1).1, (own_le18 H0.out.2.2.2.2.2.1).1, Nat.le_trans (asks_le18 _ _) H0.out.2.2.2.2.1.1⟩
  go_wp2_with fail
  refine (count_any18 H0.out.1 H4.out.1 (H0.out.2.2.1.few.mono (by have := H0.out.2.2.2.2.1; omega)) H0.out.2.2.2.2.2.2.2.2.2.2 (Pt.asks s.ps p.sess) (s.ps.any fun x => x.closes && decide (x.sess = p.sess)) (decide (p.sess ∈ s.cl)) (H0.out.2.2.1.at_ p.sess) av N cc (Pt.own p) HO3.out (by have := HS.out; omega) p.closes 1 (Or.inl rfl) ((Pt.sumW (s.ps ++ [p]) : Nat) : Int) (by rw [HS.out.1]; omega) (by have h1 := HS.out; rw [h1.1]; omega) (Pt.asks (s.ps ++ [p]) p.sess) ((s.ps ++ [p]).any fun x => x.closes && decide (x.sess = p.sess)) (fun hc => by
    unfold Pt.asks
    rw [List.countP_append, List.any_append]
    simp [hc]) (fun hc => by
    unfold Pt.asks
    rw [List.countP_append, List.any_append]
    simp [hc]) (by have := HS.out; omega)).mono ?_
  rintro e w4 ⟨rfl, fs1, hup, hpt, hmv, hkp⟩
  have H5 : Hid (PtU18 LT LS w4 q room z ((Pt.sumW (s.ps ++ [p]) : Nat) : Int) t lk fw1 fd fs1 F qt ql a b c Ft Fl G ∧ Moved w w4 F F ∧ IsE18 (s.ps ++ [p]) s.cl fs1 ∧ IsW18 w4 (s.ps ++ [p]) (fun z => if z = p.id then .slice av N cc else V z) G fw1) := by
    obtain ⟨col, hc⟩ := hpt.col
    have hk : ∀ k, G k → k < w.heap.size → w4.heap[k]? = w.heap[k]? := fun k hg hl => by
      have h1 := hc.g k hg
      rw [hkp k (by have := H4.out.2.2.2.2; omega) (fun e => by rw [e, hc.q] at h1; cases h1) (fun e => by rw [e, hc.c] at h1; cases h1)]
      exact H4.out.2.2.2.1 k hl (fun e => by rw [e, hc.a] at h1; cases h1)
    refine ⟨hpt, H4.out.2.2.1.trans hmv, H0.out.2.2.1.to hup fun y hy => ?_, H0.out.2.1.snoc H0.out.2.2.2.2.2.2.1 HU.out (ol_keep18 H0.out.2.2.2.2.2.2.2.1 fun hne k hk2 hl => hk k (H0.out.2.2.2.2.2.2.2.2.1 k hk2 hne) hl) H0.out.2.2.2.2.2.2.2.2.1 hk⟩
    have e1 : ¬ p.sess = y := fun e => hy e.symm
    unfold Pt.asks
    rw [List.countP_append, List.any_append]
    simp [e1]
  clear hup hpt hmv hkp x0 x1 x2
  go_wp2
  go_end0
  exact ⟨rfl, fw1, fs1, _, H5.out.1, H5.out.2.2.2, H5.out.2.2.1, H5.out.2.1⟩
end
end Go.Proofs.YtboejbjobjhajaaGreatDoor
