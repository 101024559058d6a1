/- What the landed network answers to New, Heal and Cut. -/
import Derived.Test.YtkldecdjokfajaaNtG9
namespace Go.Proofs.Ytkldecdjokfajaa
open Go.RowKit

section
variable {w w0 w' : World} {q mm : Nat} {n n' : Nq.Nt} {F G : Nat → Prop} {D D' : DataW Nat} {v : Value} {ps : List Nat}
/-- The ways have changed. -/
theorem NtU.turned (h : NtU w q n G mm D v ps) (hown : w'.ownsMap Try.prog 69 unitElem mm 4096 D') (hk : Ways D') (hg : w.grownBy w' (some mm)) (hn : n'.nodes = n.nodes ∧ n'.room = n.room ∧ n'.l = n.l) (hc : ∀ x y : Nat, x < n'.nodes → y < n'.nodes → Maps.has D' (wkey (min x y : Nat) (max x y : Nat)) = n'.cut x y) : NtU w' q n' G mm D' v ps := by
  have hb : ∀ k, k < w.heap.size → k ≠ mm → w'.heap[k]? = w.heap[k]? := fun k h1 h2 => hg.block k h1 (fun e => h2 (Option.some.inj e))
  refine ⟨?_, hown, hk, hc, ?_, fun j m p hm hp => ?_, h.gq, h.gm, h.gv, fun k e => Nat.lt_of_lt_of_le (h.glt k e) hg.size⟩
  · rw [hn.1, hn.2.1]
    exact h.blk.keep (hb q h.qlt (fun e => h.ne_m e.symm))
  · rw [hn.2.2]
    exact row_same9 h.row (fun k e => hb k (h.vlt e) (fun e2 => h.v_m (by rw [← e2]; exact e)))
  · rw [hn.2.2] at hm
    exact (h.msg j m p hm hp).keep (fun k e => hb k (h.glt k e) (fun e2 => h.gm (e2 ▸ e)))
theorem NtU.turnedMoved (h' : NtU w' q n' G mm D' v ps) (hg : w.grownBy w' (some mm)) (hb : Below w0.heap.size w0 w) (e : ∀ k, F k ↔ Fq q mm v G k) : PostN w0 w' q n' F :=
  PostN.mk h' ⟨hg.os.trans hb.os, hg.tape.trans hb.tape, hg.output.trans hb.output, Nat.le_trans hb.size hg.size, fun k hk hF => (hg.block k (Nat.lt_of_lt_of_le hk hb.size) (fun e2 => hF (Or.inr (Or.inl (Option.some.inj e2))))).trans (hb.block k hk), fun _ hk => Or.inl hk⟩ e
/-- One way, told by its lower and its higher node. -/
theorem way_eq {x y a b : Nat} (hx : x < 64) (hy : y < 64) (ha : a < 64) (hb : b < 64) : wkey (min x y : Nat) (max x y : Nat) = wkey (min (a : Int) (b : Int)) (max (a : Int) (b : Int)) ↔ (x = a ∧ y = b) ∨ (x = b ∧ y = a) := by
  constructor
  · intro h
    have := wkey_inj (by omega) (by omega) (by omega) (by omega) h
    omega
  · intro h
    rw [show ((min x y : Nat) : Int) = min (a : Int) (b : Int) by omega, show ((max x y : Nat) : Int) = max (a : Int) (b : Int) by omega]
theorem cutW_at {a b x y : Nat} {t : Bool} (ha : a < n.nodes) (hb : b < n.nodes) : (Nq.cutW n (a : Int) (b : Int) t).cut x y = if (x = a ∧ y = b) ∨ (x = b ∧ y = a) then t else n.cut x y := by
  unfold Nq.cutW
  rw [Nq.node_iff.2 ⟨by omega, by omega⟩, Nq.node_iff.2 ⟨by omega, by omega⟩]
  rfl
theorem cutW_rest {a b : Int} {t : Bool} : (Nq.cutW n a b t).nodes = n.nodes ∧ (Nq.cutW n a b t).room = n.room ∧ (Nq.cutW n a b t).l = n.l := by
  unfold Nq.cutW
  split <;> exact ⟨rfl, rfl, rfl⟩
theorem NtU.putCut {a b N : Nat} (h : NtU w q n G mm D v ps) (ha : a < n.nodes) (hb : b < n.nodes) (h64 : n.nodes ≤ 64) (hown : w'.ownsMap Try.prog 69 unitElem mm N (D.put (wkey (min (a : Int) (b : Int)) (max (a : Int) (b : Int))) (.agg []))) (ht : w.mapTurned w' mm) (hbl : Below w0.heap.size w0 w) (e : ∀ k, F k ↔ Fq q mm v G k) : PostN w0 w' q (Nq.cutW n (a : Int) (b : Int) true) F := by
  have hm := h.own.isMap
  have hkl : WideAt.IsKeyLit (wkey (min (a : Int) (b : Int)) (max (a : Int) (b : Int))) := trivial
  have hW : Ways (D.put (wkey (min (a : Int) (b : Int)) (max (a : Int) (b : Int))) (.agg [])) := fun kl hk => by
    by_cases e2 : kl = wkey (min (a : Int) (b : Int)) (max (a : Int) (b : Int))
    · exact ⟨min a b, max a b, by omega, by omega, by rw [e2, show ((min a b : Nat) : Int) = min (a : Int) (b : Int) by omega, show ((max a b : Nat) : Int) = max (a : Int) (b : Int) by omega]⟩
    · rw [Maps.has_put_other e2] at hk
      exact h.keys kl hk
  refine (h.turned (own_small hown hW) hW ht.grown cutW_rest (fun x y hx hy => ?_)).turnedMoved ht.grown hbl e
  rw [cutW_rest.1] at hx hy
  rw [cutW_at ha hb]
  have hw := way_eq (x := x) (y := y) (a := a) (b := b) (by omega) (by omega) (by omega) (by omega)
  by_cases hc : (x = a ∧ y = b) ∨ (x = b ∧ y = a)
  · rw [if_pos hc, hw.2 hc]
    exact Maps.has_put_same hm hkl _
  · rw [if_neg hc, Maps.has_put_other (fun e2 => hc (hw.1 e2))]
    exact h.cut x y hx hy
theorem NtU.delCut {a b N : Nat} (h : NtU w q n G mm D v ps) (ha : a < n.nodes) (hb : b < n.nodes) (h64 : n.nodes ≤ 64) (hown : w'.ownsMap Try.prog 69 unitElem mm N (D.del (wkey (min (a : Int) (b : Int)) (max (a : Int) (b : Int))))) (ht : w.mapTurned w' mm) (hbl : Below w0.heap.size w0 w) (e : ∀ k, F k ↔ Fq q mm v G k) : PostN w0 w' q (Nq.cutW n (a : Int) (b : Int) false) F := by
  have hW : Ways (D.del (wkey (min (a : Int) (b : Int)) (max (a : Int) (b : Int)))) := fun kl hk => by
    by_cases e2 : kl = wkey (min (a : Int) (b : Int)) (max (a : Int) (b : Int))
    · rw [e2, Maps.has_del_same] at hk
      cases hk
    · rw [Maps.has_del_other e2] at hk
      exact h.keys kl hk
  refine (h.turned (own_small hown hW) hW ht.grown cutW_rest (fun x y hx hy => ?_)).turnedMoved ht.grown hbl e
  rw [cutW_rest.1] at hx hy
  rw [cutW_at ha hb]
  have hw := way_eq (x := x) (y := y) (a := a) (b := b) (by omega) (by omega) (by omega) (by omega)
  by_cases hc : (x = a ∧ y = b) ∨ (x = b ∧ y = a)
  · rw [if_pos hc, hw.2 hc]
    exact Maps.has_del_same
  · rw [if_neg hc, Maps.has_del_other (fun e2 => hc (hw.1 e2))]
    exact h.cut x y hx hy
end

set_option maxRecDepth 20000 in
set_option maxHeartbeats 8000000 in
theorem cut_yes9 {w : World} {q mm : Nat} {n : Nq.Nt} {F G : Nat → Prop} {D : DataW Nat} {v : Value} {ps : List Nat} (a b : Nat) (t : Bool) (h : NtU w q n G mm D v ps) (hF : ∀ k, F k ↔ Fq q mm v G k) (ha : a < n.nodes) (hb : b < n.nodes) (h64 : n.nodes ≤ 64) :
    Calls Try.prog 21 #[dptr q, .int .i64 (a : Int), .int .i64 (b : Int), .bool t] w fun e w' => e = .returned (.tuple #[]) ∧ PostN w w' q (Nq.cutW n (a : Int) (b : Int) t) F := by
  have HH : Hid (NtU w q n G mm D v ps ∧ ∀ k, F k ↔ Fq q mm v G k) := ⟨h, hF⟩
  have HA : Hid (a < n.nodes ∧ b < n.nodes ∧ n.nodes ≤ 64) := ⟨ha, hb, h64⟩
  have n1 : Nq.node n (a : Int) = true := Nq.node_iff.2 ⟨by omega, by omega⟩
  have n2 : Nq.node n (b : Int) = true := Nq.node_iff.2 ⟨by omega, by omega⟩
  have N1 : Hid (Calls Try.prog 32 #[dptr q, .int .i64 (a : Int)] w fun e w' => e = .returned (.bool true) ∧ w' = w) := by
    have h1 := isNode_any9 (a : Int) h.blk
    unfold Nq.node at n1
    rw [n1] at h1
    exact h1
  have N2 : Hid (Calls Try.prog 32 #[dptr q, .int .i64 (b : Int)] w fun e w' => e = .returned (.bool true) ∧ w' = w) := by
    have h1 := isNode_any9 (b : Int) h.blk
    unfold Nq.node at n2
    rw [n2] at h1
    exact h1
  have HKY : Hid (keyOf Try.prog 69 (.agg #[.int .i64 (min (a : Int) (b : Int)), .int .i64 (max (a : Int) (b : Int))]) = some (wkey (min (a : Int) (b : Int)) (max (a : Int) (b : Int)))) := key9 (by omega) (by omega)
  clear h hF ha hb h64 n1 n2
  cases t with
  | true =>
    go_enter Try.func21, Try.ntmps21
    go_wp2_with fail
    refine N1.out.mono ?_
    rintro e w1 ⟨rfl, hw⟩
    rw [hw]
    clear hw w1
    go_wp2_with fail
    refine N2.out.mono ?_
    rintro e w1 ⟨rfl, hw⟩
    rw [hw]
    clear hw w1
    go_wp2_with fail
    refine wp_region_T (fun w' => w'.cell? ⟨q, 3, none⟩ = some (.map (some mm))) 8 (by kernel_rfl) ?_
    have B0 : Hid (Below w.heap.size w w.drew) := (Below.refl _ w).drew
    generalize w.drew = wX at *
    have HSB : Hid (∀ w', Below w.heap.size w w' → w'.cell? ⟨q, 3, none⟩ = some (.map (some mm))) := fun w' hb => (HH.out.1.below hb).blk.cell 3
    refine' take_T (i := 0) (d := 19) (v := _) rfl rfl (by kernel_rfl) (by kernel_rfl) (by kernel_rfl) (by kernel_rfl) (by kernel_rfl) (fun _ _ _ h => h) (Or.inl ⟨by rfl, ?h0⟩) ((HSB.out _ B0.out)) ?_
    case h0 => intro w hSw; go_simp; with_reducible rfl
    simp only [List.setIfInBounds_toArray, List.set_cons_zero, List.set_cons_succ]
    refine' take_T (i := 1) (d := 20) (v := _) rfl rfl (by kernel_rfl) (by kernel_rfl) (by kernel_rfl) (by kernel_rfl) (by kernel_rfl) (fun _ _ _ h => h) (Or.inl ⟨by rfl, ?h1⟩) ((HSB.out _ B0.out)) ?_
    case h1 => intro w hSw; go_simp; with_reducible rfl
    simp only [List.setIfInBounds_toArray, List.set_cons_zero, List.set_cons_succ]
    refine' take_T (i := 2) (d := 21) (v := _) rfl rfl (by kernel_rfl) (by kernel_rfl) (by kernel_rfl) (by kernel_rfl) (by kernel_rfl) (fun _ _ _ h => h) (Or.inl ⟨by rfl, ?h2⟩) ((HSB.out _ B0.out)) ?_
    case h2 => intro w hSw; go_simp; with_reducible rfl
    simp only [List.setIfInBounds_toArray, List.set_cons_zero, List.set_cons_succ]
    refine' take_T (i := 3) (d := 22) (v := _) rfl rfl (by kernel_rfl) (by kernel_rfl) (by kernel_rfl) (by kernel_rfl) (by kernel_rfl) (fun _ _ _ h => h) (Or.inl ⟨by rfl, ?h3⟩) ((HSB.out _ B0.out)) ?_
    case h3 => intro w hSw; go_simp; with_reducible rfl
    simp only [List.setIfInBounds_toArray, List.set_cons_zero, List.set_cons_succ]
    refine' take_T (i := 4) (d := 23) (v := _) rfl rfl (by kernel_rfl) (by kernel_rfl) (by kernel_rfl) (by kernel_rfl) (by kernel_rfl) (fun _ _ _ h => h) (Or.inl ⟨by rfl, ?h4⟩) ((HSB.out _ B0.out)) ?_
    case h4 => intro w hSw; go_simp; with_reducible rfl
    simp only [List.setIfInBounds_toArray, List.set_cons_zero, List.set_cons_succ]
    refine' take_T (i := 5) (d := 24) (v := _) rfl rfl (by kernel_rfl) (by kernel_rfl) (by kernel_rfl) (by kernel_rfl) (by kernel_rfl) (fun _ _ _ h => h) (Or.inl ⟨by rfl, ?h5⟩) ((HSB.out _ B0.out)) ?_
    case h5 => intro w hSw; go_simp; with_reducible rfl
    simp only [List.setIfInBounds_toArray, List.set_cons_zero, List.set_cons_succ]
    refine' take_T (i := 7) (d := 26) (v := _) rfl rfl (by kernel_rfl) (by kernel_rfl) (by kernel_rfl) (by kernel_rfl) (by kernel_rfl) (fun _ _ _ h => h) (Or.inl ⟨by rfl, ?h7⟩) ((HSB.out _ B0.out)) ?_
    case h7 => intro w hSw; go_simp; with_reducible rfl
    simp only [List.setIfInBounds_toArray, List.set_cons_zero, List.set_cons_succ]
    refine wpAnyT_ready (rs := [6]) (by kernel_rfl) (by simp) ?_
    refine AllReadyT.cons (o := _) rfl (fun K hK => ?_) AllReadyT.nil
    go_simp
    refine (between_any9 (a : Int) (b : Int) wX).mono ?_
    rintro e wY ⟨rfl, hb⟩
    have B1 : Hid (Below w.heap.size w wY) := B0.out.trans (hb.mono B0.out.size)
    clear hb
    unfold wv
    refine hK.out _ _ (fun _ => HSB.out _ B1.out) ?_
    clear hK K
    refine wpAnyT_ready (rs := [8]) (by kernel_rfl) (by simp) ?_
    refine AllReadyT.cons (o := _) rfl (fun K hK => ?_) AllReadyT.nil
    obtain ⟨w3, hrun, hown, hturn⟩ := (HH.out.1.below B1.out).own.store keyed9 Try.underlying58 (by unfold maxLen; omega) HKY.out unitElem_mk
    have HF : Hid (PostN w w3 q (Nq.cutW n (a : Int) (b : Int) true) F) := (HH.out.1.below B1.out).putCut HA.out.1 HA.out.2.1 HA.out.2.2 hown hturn B1.out HH.out.2
    clear hown hturn
    go_simp
    refine hK.out _ _ (fun h => absurd rfl h) ?_
    clear hK K
    refine wpAnyT_done (by kernel_rfl) ?_ _
    go_wp2
    go_end0
    exact ⟨rfl, HF.out⟩
  | false =>
    go_enter Try.func21, Try.ntmps21
    go_wp2_with fail
    refine N1.out.mono ?_
    rintro e w1 ⟨rfl, hw⟩
    rw [hw]
    clear hw w1
    go_wp2_with fail
    refine N2.out.mono ?_
    rintro e w1 ⟨rfl, hw⟩
    rw [hw]
    clear hw w1
    go_wp2_with fail
    refine wp_region_T (fun w' => w'.cell? ⟨q, 3, none⟩ = some (.map (some mm))) 7 (by kernel_rfl) ?_
    have B0 : Hid (Below w.heap.size w w.drew) := (Below.refl _ w).drew
    generalize w.drew = wX at *
    have HSB : Hid (∀ w', Below w.heap.size w w' → w'.cell? ⟨q, 3, none⟩ = some (.map (some mm))) := fun w' hb => (HH.out.1.below hb).blk.cell 3
    refine' take_T (i := 0) (d := 27) (v := _) rfl rfl (by kernel_rfl) (by kernel_rfl) (by kernel_rfl) (by kernel_rfl) (by kernel_rfl) (fun _ _ _ h => h) (Or.inl ⟨by rfl, ?h0⟩) ((HSB.out _ B0.out)) ?_
    case h0 => intro w hSw; go_simp; with_reducible rfl
    simp only [List.setIfInBounds_toArray, List.set_cons_zero, List.set_cons_succ]
    refine' take_T (i := 1) (d := 28) (v := _) rfl rfl (by kernel_rfl) (by kernel_rfl) (by kernel_rfl) (by kernel_rfl) (by kernel_rfl) (fun _ _ _ h => h) (Or.inl ⟨by rfl, ?h1⟩) ((HSB.out _ B0.out)) ?_
    case h1 => intro w hSw; go_simp; with_reducible rfl
    simp only [List.setIfInBounds_toArray, List.set_cons_zero, List.set_cons_succ]
    refine' take_T (i := 2) (d := 29) (v := _) rfl rfl (by kernel_rfl) (by kernel_rfl) (by kernel_rfl) (by kernel_rfl) (by kernel_rfl) (fun _ _ _ h => h) (Or.inl ⟨by rfl, ?h2⟩) ((HSB.out _ B0.out)) ?_
    case h2 => intro w hSw; go_simp; with_reducible rfl
    simp only [List.setIfInBounds_toArray, List.set_cons_zero, List.set_cons_succ]
    refine' take_T (i := 3) (d := 30) (v := _) rfl rfl (by kernel_rfl) (by kernel_rfl) (by kernel_rfl) (by kernel_rfl) (by kernel_rfl) (fun _ _ _ h => h) (Or.inl ⟨by rfl, ?h3⟩) ((HSB.out _ B0.out)) ?_
    case h3 => intro w hSw; go_simp; with_reducible rfl
    simp only [List.setIfInBounds_toArray, List.set_cons_zero, List.set_cons_succ]
    refine' take_T (i := 4) (d := 31) (v := _) rfl rfl (by kernel_rfl) (by kernel_rfl) (by kernel_rfl) (by kernel_rfl) (by kernel_rfl) (fun _ _ _ h => h) (Or.inl ⟨by rfl, ?h4⟩) ((HSB.out _ B0.out)) ?_
    case h4 => intro w hSw; go_simp; with_reducible rfl
    simp only [List.setIfInBounds_toArray, List.set_cons_zero, List.set_cons_succ]
    refine' take_T (i := 5) (d := 32) (v := _) rfl rfl (by kernel_rfl) (by kernel_rfl) (by kernel_rfl) (by kernel_rfl) (by kernel_rfl) (fun _ _ _ h => h) (Or.inl ⟨by rfl, ?h5⟩) ((HSB.out _ B0.out)) ?_
    case h5 => intro w hSw; go_simp; with_reducible rfl
    simp only [List.setIfInBounds_toArray, List.set_cons_zero, List.set_cons_succ]
    refine wpAnyT_ready (rs := [6]) (by kernel_rfl) (by simp) ?_
    refine AllReadyT.cons (o := _) rfl (fun K hK => ?_) AllReadyT.nil
    go_simp
    refine (between_any9 (a : Int) (b : Int) wX).mono ?_
    rintro e wY ⟨rfl, hb⟩
    have B1 : Hid (Below w.heap.size w wY) := B0.out.trans (hb.mono B0.out.size)
    clear hb
    unfold wv
    refine hK.out _ _ (fun _ => HSB.out _ B1.out) ?_
    clear hK K
    refine wpAnyT_ready (rs := [7]) (by kernel_rfl) (by simp) ?_
    refine AllReadyT.cons (o := _) rfl (fun K hK => ?_) AllReadyT.nil
    obtain ⟨w3, hrun, hown, hturn⟩ := (HH.out.1.below B1.out).own.drop keyed9 Try.underlying58 HKY.out 0
    have HF : Hid (PostN w w3 q (Nq.cutW n (a : Int) (b : Int) false) F) := (HH.out.1.below B1.out).delCut HA.out.1 HA.out.2.1 HA.out.2.2 hown hturn B1.out HH.out.2
    clear hown hturn
    go_simp
    refine hK.out _ _ (fun h => absurd rfl h) ?_
    clear hK K
    refine wpAnyT_done (by kernel_rfl) ?_ _
    go_wp2
    go_end0
    exact ⟨rfl, HF.out⟩

set_option maxRecDepth 20000 in
set_option maxHeartbeats 4000000 in
theorem cut_any9 (q : Nat) (n : Nq.Nt) (F : Nat → Prop) (a b : Int) (t : Bool) (w : World) (h : LNt w q n F) (hf : FineN n) :
    Calls Try.prog 21 #[dptr q, .int .i64 a, .int .i64 b, .bool t] w fun e w' => e = .returned (.tuple #[]) ∧ PostN w w' q (Nq.cutW n a b t) F := by
  obtain ⟨G, mm, D, v, ps, h1, h2⟩ := h
  have HH : Hid (NtU w q n G mm D v ps ∧ ∀ k, F k ↔ Fq q mm v G k) := ⟨h1, h2⟩
  have N1 : Hid (Calls Try.prog 32 #[dptr q, .int .i64 a] w fun e w' => e = .returned (.bool (Nq.node n a)) ∧ w' = w) := isNode_any9 a h1.blk
  have N2 : Hid (Calls Try.prog 32 #[dptr q, .int .i64 b] w fun e w' => e = .returned (.bool (Nq.node n b)) ∧ w' = w) := isNode_any9 b h1.blk
  cases ha : Nq.node n a with
  | false =>
    rw [ha] at N1
    have HX : Hid (Nq.cutW n a b t = n) := by
      have h : Nq.cutW n a b t = n := by unfold Nq.cutW; rw [ha]; rfl
      exact h
    clear ha h1 h2
    go_enter Try.func21, Try.ntmps21
    go_wp2_with fail
    refine N1.out.mono ?_
    rintro e w1 ⟨rfl, hw⟩
    rw [hw]
    clear hw w1
    go_wp2
    refine bodyPost_ret (results_none rfl _ _ _) rfl ?_
    exact ⟨rfl, by rw [HX.out]; exact PostN.mk HH.out.1 (Moved.refl _ _) HH.out.2⟩
  | true =>
    cases hb : Nq.node n b with
    | false =>
      rw [ha] at N1
      rw [hb] at N2
      have HX : Hid (Nq.cutW n a b t = n) := by
        have h : Nq.cutW n a b t = n := by unfold Nq.cutW; rw [ha, hb]; rfl
        exact h
      clear ha hb h1 h2
      go_enter Try.func21, Try.ntmps21
      go_wp2_with fail
      refine N1.out.mono ?_
      rintro e w1 ⟨rfl, hw⟩
      rw [hw]
      clear hw w1
      go_wp2_with fail
      refine N2.out.mono ?_
      rintro e w1 ⟨rfl, hw⟩
      rw [hw]
      clear hw w1
      go_wp2
      refine bodyPost_ret (results_none rfl _ _ _) rfl ?_
      exact ⟨rfl, by rw [HX.out]; exact PostN.mk HH.out.1 (Moved.refl _ _) HH.out.2⟩
    | true =>
      obtain ⟨a0, a1⟩ := Nq.node_iff.1 ha
      obtain ⟨b0, b1⟩ := Nq.node_iff.1 hb
      have h := cut_yes9 a.toNat b.toNat t h1 h2 (by omega) (by omega) hf.nodes
      rw [show ((a.toNat : Nat) : Int) = a by omega, show ((b.toNat : Nat) : Int) = b by omega] at h
      exact h

/-- 'clear(m)'. -/
theorem clear9 {w : World} {mm N : Nat} {D : DataW Nat} (h : w.ownsMap Try.prog 69 unitElem mm N D) (ty : TypeId) : ∃ w', (Builtin.clear_ #[58] ty #[.map (some mm)]).run Try.prog w = .ok (.tuple #[]) w' ∧ w'.ownsMap Try.prog 69 unitElem mm 4096 (.map [] : DataW Nat) ∧ w.mapTurned w' mm := by
  obtain ⟨es, clock, hb, F, _, _⟩ := h
  refine ⟨ChangeMaps.setBlock w mm (.map #[] clock), ?_, ⟨#[], clock, ChangeMaps.heap_setBlock_same hb _, ⟨by simp, MapKept.stamped_empty clock, by simp⟩, by simp, rfl⟩, ⟨es, clock, #[], clock, hb, rfl⟩⟩
  simp [Builtin.clear_, run_underlying Try.underlying58, MapKept.run_getObj_map hb, MapKept.run_setObj_map _ hb, Result.andThen]
  rfl

set_option maxRecDepth 20000 in
set_option maxHeartbeats 4000000 in
theorem heal_any9 (q : Nat) (n : Nq.Nt) (F : Nat → Prop) (w : World) (h : LNt w q n F) :
    Calls Try.prog 23 #[dptr q] w fun e w' => e = .returned (.tuple #[]) ∧ PostN w w' q (Nq.heal n) F := by
  obtain ⟨G, mm, D, v, ps, h1, h2⟩ := h
  obtain ⟨w3, hrun, hown, hturn⟩ := clear9 h1.own 0
  have hW : Ways (.map []) := fun kl hk => by cases hk
  have HF : Hid (PostN w w3 q (Nq.heal n) F) := (h1.turned (n' := Nq.heal n) hown hW hturn.grown ⟨rfl, rfl, rfl⟩ (fun x y _ _ => rfl)).turnedMoved hturn.grown (Below.refl _ _) h2
  have l3 : w.cell? ⟨q, 3, none⟩ = some (.map (some mm)) := h1.blk.cell 3
  clear h1 h2 hown hturn hW
  go_enter Try.func23, Try.ntmps23
  go_wp2
  go_end0
  exact ⟨rfl, HF.out⟩

theorem make9 (w : World) : (Instr.makeMap 58 none).run Try.prog w = .ok (.map (some w.heap.size)) (w.alloc (.map #[] 0)) := by kernel_rfl

set_option maxRecDepth 20000 in
set_option maxHeartbeats 4000000 in
theorem new_any9 (a b : Int) (w : World) : Calls Try.prog 9 #[.int .i64 a, .int .i64 b] w fun e w' => Below w.heap.size w w' ∧
    if a < 1 ∨ 64 < a ∨ b < 1 ∨ 65536 < b then e = .returned (.tuple #[.pointer none, .int .i64 1]) else ∃ q F, e = .returned (.tuple #[dptr q, .int .i64 0]) ∧ LNt w' q (Nq.made a.toNat b.toNat) F ∧ ∀ k, F k → w.heap.size ≤ k := by
  by_cases h1 : a < 1
  · simp only [if_pos (show a < 1 ∨ 64 < a ∨ b < 1 ∨ 65536 < b from Or.inl h1)]
    go_enter Try.func9, Try.ntmps9
    go_wp2
    go_ret2
    exact ⟨Below.refl _ _, rfl⟩
  · by_cases h2 : 64 < a
    · simp only [if_pos (show a < 1 ∨ 64 < a ∨ b < 1 ∨ 65536 < b from Or.inr (Or.inl h2))]
      go_enter Try.func9, Try.ntmps9
      go_wp2
      go_ret2
      exact ⟨Below.refl _ _, rfl⟩
    · by_cases h3 : b < 1
      · simp only [if_pos (show a < 1 ∨ 64 < a ∨ b < 1 ∨ 65536 < b from Or.inr (Or.inr (Or.inl h3)))]
        go_enter Try.func9, Try.ntmps9
        go_wp2
        go_ret2
        exact ⟨Below.refl _ _, rfl⟩
      · by_cases h4 : 65536 < b
        · simp only [if_pos (show a < 1 ∨ 64 < a ∨ b < 1 ∨ 65536 < b from Or.inr (Or.inr (Or.inr h4)))]
          go_enter Try.func9, Try.ntmps9
          go_wp2
          go_ret2
          exact ⟨Below.refl _ _, rfl⟩
        · simp only [if_neg (show ¬ (a < 1 ∨ 64 < a ∨ b < 1 ∨ 65536 < b) by omega)]
          have HF : Hid (∀ w1 w2 : World, w1 = w.alloc (.map #[] 0) → w2 = w1.alloc (.cells [.int .i64 a, .int .i64 b, .slice none 0 0, .map (some w.heap.size)].toArray 61) → Below w.heap.size w w2 ∧ ∃ F, LNt w2 (w.heap.size + 1) (Nq.made a.toNat b.toNat) F ∧ ∀ k, F k → w.heap.size ≤ k) := fun w1 w2 e1 e2 => by
            have hB1 : Below w.heap.size w w1 := by rw [e1]; exact (Below.refl _ w).alloc (Nat.le_refl _) _
            have hB2 : Below w1.heap.size w1 w2 := by rw [e2]; exact (Below.refl _ w1).alloc (Nat.le_refl _) _
            have hs1 : w1.heap.size = w.heap.size + 1 := by rw [e1]; simp
            have hs2 : w2.heap.size = w1.heap.size + 1 := by rw [e2]; simp
            have hm : w1.ownsMap Try.prog 69 unitElem w.heap.size 4096 (.map [] : DataW Nat) := by rw [e1]; exact (World.ownsMap_made w _ _ _).mono (Nat.zero_le _)
            have hk : Nk w2 w1.heap.size [.int .i64 a, .int .i64 b, .slice none 0 0, .map (some w.heap.size)] 61 := by rw [e2]; exact Nk.made w1 _ _
            rw [← hs1]
            refine ⟨hB1.trans (hB2.mono hB1.size), Fq w1.heap.size w.heap.size (.slice none 0 0) (fun _ => False), ⟨fun _ => False, w.heap.size, .map [], .slice none 0 0, [], ⟨?_, map_keep hm (hB2.block _ (by omega)), fun kl hk => (by cases hk), fun x y _ _ => rfl, World.ownsRow_nil _ _ _ _, fun j m p hm => (by simp [Nq.made] at hm), id, id, fun k e => (by cases e), fun k e => e.elim⟩, fun _ => Iff.rfl⟩, fun k hk => ?_⟩
            · have ea : ((Nq.made a.toNat b.toNat).nodes : Int) = a := by show ((a.toNat : Nat) : Int) = a; omega
              have eb : ((Nq.made a.toNat b.toNat).room : Int) = b := by show ((b.toNat : Nat) : Int) = b; omega
              rw [ea, eb]
              exact hk
            · rcases hk with e | e | e | e
              · omega
              · omega
              · cases e
              · exact e.elim
          have hmk : (Instr.makeMap 58 none).run Try.prog w = .ok (.map (some w.heap.size)) (w.alloc (.map #[] 0)) := make9 w
          go_enter Try.func9, Try.ntmps9
          go_wp2
          go_ret2
          have h := HF.out _ _ rfl rfl
          obtain ⟨hb, F, h5, h6⟩ := h
          exact ⟨hb, _, rfl, F, h5, h6⟩
end Go.Proofs.Ytkldecdjokfajaa
