import Derived.Test.YtboejbjobjhajaaGreatDoorRtr
import Derived.Test.YtboejbjobjhajaaGreatDoorMn18
namespace Go.Proofs.YtboejbjobjhajaaGreatDoor
open Go.RowKit
theorem wp_entry11 {o : Oper} {a : Act} {K : Act → World → Prop} {Q : Exit → Act → World → Prop} (s x : Operand)
    (ho : o.op = .call { callee := .builtin .append, args := #[s, x], argTypes := #[114, 114] })
    (B : Nat) (v : Value) (es : List (Tq.En × Value)) (x1 : Tq.En × Value) (sb : Nat) (w : World) (hs : a.eval s = v) (hx : a.eval x = .slice (some ⟨sb, 0, none⟩) 1 1) (hown : w.ownsRow B 142 11 v es.length (es11 es)) (hB : B ≤ w.heap.size) (hc : Cb w sb (e11 x1.1 x1.2) 142) (hN : es.length ≤ 3000) (h1 : ∀ u ∈ e11 x1.1 x1.2, u.oneCell' = true)
    (h : ∀ v' w', w'.ownsRow B 142 11 v' (es ++ [x1]).length (es11 (es ++ [x1])) → w.grownBy w' v.ownBlock → (v'.ownBlock = v.ownBlock ∨ v'.ownBlock = some w.heap.size) → K (a.put o.dst v') w') : o.wp Tryz.prog a w K Q := by
  obtain ⟨i0, hi, hz0, hz1, hz2⟩ := info_parts infoEntry11
  have hcell : ∀ j y, (e11 x1.1 x1.2)[j]? = some y → w.cell? ((⟨sb, 0, none⟩ : Addr).add j) = some y := fun j y hy => by
    rw [Addr.add_lit, Nat.zero_add, hc.cell j]
    exact hy
  obtain ⟨v', w', hr, h2, h3, h4, h5⟩ := run_append_own_at (P := Tryz.prog) w B 114 o.type 142 i0 _ 11 120 Tryz.underlying114 hi hz0 hz1 hz2 rfl (by decide) v es.length (es11 es) hown ⟨sb, 0, none⟩ 1 1 (e11 x1.1 x1.2) rfl hcell h1 (by unfold maxLen; omega) (by omega) hB
  unfold Oper.wp execOp
  simp only [ho, resolve, invoke, builtin, Sem.run_bind, Sem.run_pure, Result.andThen_ok, List.map_toArray, List.map_cons, List.map_nil, hs, hx, hr]
  exact h v' w' (by rw [es11_snoc, List.length_append]; exact h2) h3 h5
end Go.Proofs.YtboejbjobjhajaaGreatDoor
namespace Go.Proofs.YtboejbjobjhajaaGreatDoor
open Go.RowKit
set_option maxRecDepth 20000 in
set_option maxHeartbeats 4000000 in
theorem nd_any18 (n : Kq.Kn) (a : Option Addr) (L c : Nat) (w : World) :
    Calls Tryz.prog 83 #[kv n (.slice a L c)] w fun e w' => e = .returned (kv n (.slice a L c)) ∧ Below w.heap.size w w' := by
  unfold kv
  go_enter Tryz.func83, Tryz.ntmps83
  go_wp2
  refine bodyPost_ret (v := .agg #[.int .i64 n.made, .int .i64 n.changed, .int .i64 n.ver, .int .i64 n.kids, .int .i64 n.owner, .int .i64 n.len, .int .i64 n.cnt, .string n.data, .int .i64 n.next, .slice a L c]) ?_ rfl ⟨rfl, ?_⟩
  · rw [results_one10 rfl]
    go_simp
  · exact ((Below.refl _ w).alloc (Nat.le_refl _) _).alloc ((Below.refl _ w).alloc (Nat.le_refl _) _).size _
set_option maxRecDepth 20000 in
set_option maxHeartbeats 8000000 in
theorem own_any18 {LT : Rep11} (S : Specs11 LT) (R : SpecR11 LT) (q : Nat) (t : Tq.Tr) (F : Nat → Prop) (room : Int) (w : World) (hL : LT w q t F) (hf : Fine11 t) :
    Calls Tryz.prog 38 #[dptr q, .int .i64 room] w fun e w' => ∃ q' v es pv, e = .returned (dptr q') ∧ Ow11 w w' q' room v es pv (Tq.keys t.l) ∧ es.map (·.1) = t.l := by
  have HS : Hid (Specs11 LT ∧ SpecR11 LT ∧ LT w q t F ∧ Fine11 t) := ⟨S, R, hL, hf⟩
  obtain ⟨qb, hqb⟩ : ∃ z, z = w.heap.size := ⟨_, rfl⟩
  have H1 : Hid (Below w.heap.size w (w.alloc (.cells #[.int .i64 room, .slice none 0 0] 116)) ∧ Cb (w.alloc (.cells #[.int .i64 room, .slice none 0 0] 116)) qb [.int .i64 room, .slice none 0 0] 116 ∧ w.heap.size ≤ qb) := ⟨(Below.refl _ w).alloc (Nat.le_refl _) _, by rw [hqb]; exact Cb.made w _ _, by omega⟩
  clear S R hL hf
  unfold dptr
  go_enter Tryz.func38, Tryz.ntmps38
  go_upto_region 2 with fail
  rw [← hqb]
  clear hqb
  generalize w.alloc (.cells #[.int .i64 room, .slice none 0 0] 116) = w1 at *
  go_wp2_with fail
  refine (HS.out.2.1.paths q t F w1 (HS.out.1.keep HS.out.2.2.1 (fun k hk => H1.out.1.block k (HS.out.1.lt HS.out.2.2.1 hk))) HS.out.2.2.2).mono ?_
  rintro e w5 ⟨v5, rfl, hsq, hof, hb⟩
  have H5 : Hid (Ow11 w w5 qb room (.slice none 0 0) [] v5 (Tq.keys t.l)) := by
    refine ⟨H1.out.1.trans (hb.mono H1.out.1.size), H1.out.2.1.below hb, H1.out.2.2, World.ownsRow_nil _ _ _ _, fun x hx => (by cases hx), ⟨hsq.ss, fun _ k hk e => ?_⟩⟩
    rcases e with e | e
    · cases e
    · have h1 := hof k hk
      have h2 := H1.out.2.1.lt
      simp only [] at h1
      omega
  obtain ⟨pa, pL, pc, rfl, hpL, hjj⟩ := hsq
  have HPL : Hid (pL = t.l.length) := by
    have e : pL = t.l.length := by rw [hpL]; unfold Tq.keys; simp
    exact e
  have hpL5 : pL ≤ 500 := by have h1 := HPL.out; have h2 := HS.out.2.2.2.len; have h3 := HS.out.2.2.2.room; omega
  clear hof hb hjj hpL H1
  go_wp2
  go_loopw [7] (fun i wr => ∃ (k : Nat) (v : Value) (es : List (Tq.En × Value)), k ≤ pL ∧ i = .int .i64 (k : Int) ∧ Ow11 w wr qb room v es (.slice pa pL pc) (Tq.keys t.l) ∧ es.map (·.1) = t.l.take k) (fun i _ => pL - (intOf i).toNat)
  case atStart => exact ⟨0, _, [], Nat.zero_le _, rfl, H5.out, by simp⟩
  case round =>
    obtain ⟨k, v, es, hk, rfl, hO, hes⟩ := hrel
    have H6 : Hid (Ow11 w wr qb room v es (.slice pa pL pc) (Tq.keys t.l) ∧ es.map (·.1) = t.l.take k) := ⟨hO, hes⟩
    clear hO hes H5
    by_cases hlt : k < pL
    · have hlt' : (k : Int) < (pL : Int) := by omega
      have hk0 : (0 : Int) ≤ (k : Int) := by omega
      have hwk : IntKind.wrap .i64 ((k : Int) + 1) = (k : Int) + 1 := by rw [IntKind.wrap_i64]; omega
      obtain ⟨p, m, hp0, hp1, hp2, hp3⟩ := Tq.key_at3 HS.out.2.2.2 (j := k) (by have := HPL.out; omega)
      have HP : Hid (t.l[k]? = some (p, m) ∧ (Tq.keys t.l)[k]? = some p ∧ Tq.find t.l p = some m ∧ p.size ≤ maxLen) := ⟨hp0, hp1, hp2, hp3⟩
      obtain ⟨av, n0, c0, e0, hj0, hcs⟩ := H6.out.1.paths.ss
      obtain ⟨pg, po, hpa, lx⟩ := hcs k p hp1
      simp only [Value.slice.injEq] at e0
      obtain ⟨e1, e2, e3⟩ := e0
      subst hpa e1
      clear hcs e2 e3 hj0 hp0 hp1 hp2 hp3
      have HPG : Hid (v.ownBlock ≠ some pg ∧ wr.cell? ⟨pg, po + k, none⟩ = some (.string p)) := ⟨fun e => H6.out.1.paths.off (fun e2 => by have h := HP.out.2.1; rw [e2] at h; simp at h) pg rfl (Or.inl e), lx⟩
      go_wp2_with fail
      clear lx
      refine (HS.out.2.1.node q t F p wr (HS.out.1.keep HS.out.2.2.1 (fun k hk => H6.out.1.below.block k (HS.out.1.lt HS.out.2.2.1 hk))) HS.out.2.2.2 HP.out.2.2.2).mono ?_
      rintro e w7 ⟨hN, hb⟩
      obtain ⟨u, rfl, hsq, hof⟩ := hN.1 m HP.out.2.2.1
      have hss := hsq.ss
      obtain ⟨ma, mL, mc, rfl, hj1, hj2⟩ := hsq
      obtain ⟨qn, hqn⟩ : ∃ z, z = w7.heap.size := ⟨_, rfl⟩
      obtain ⟨va, vc, ev, hj3, hj4⟩ := row_form H6.out.1.row
      obtain ⟨E, hE⟩ : ∃ E, E = es.length := ⟨_, rfl⟩
      rw [← hE] at ev
      have HE : Hid (E = es.length) := hE
      subst ev
      have H8 : Hid (Ow11 w (w7.alloc (.cells #[.int .i64 m.made, .int .i64 m.changed, .int .i64 m.ver, .int .i64 m.kids, .int .i64 m.owner, .int .i64 m.len, .int .i64 m.cnt, .string m.data, .int .i64 m.next, .slice ma mL mc] 146)) qb room (.slice va E vc) es (.slice (some ⟨pg, po, none⟩) pL pc) (Tq.keys t.l) ∧ Cb (w7.alloc (.cells #[.int .i64 m.made, .int .i64 m.changed, .int .i64 m.ver, .int .i64 m.kids, .int .i64 m.owner, .int .i64 m.len, .int .i64 m.cnt, .string m.data, .int .i64 m.next, .slice ma mL mc] 146)) qn (k10 m (.slice ma mL mc)) 146 ∧ Ss (w7.alloc (.cells #[.int .i64 m.made, .int .i64 m.changed, .int .i64 m.ver, .int .i64 m.kids, .int .i64 m.owner, .int .i64 m.len, .int .i64 m.cnt, .string m.data, .int .i64 m.next, .slice ma mL mc] 146)) (.slice ma mL mc) m.names ∧ (m.names ≠ [] → Off11 (fun k => k < wr.heap.size) (.slice ma mL mc)) ∧ (w7.alloc (.cells #[.int .i64 m.made, .int .i64 m.changed, .int .i64 m.ver, .int .i64 m.kids, .int .i64 m.owner, .int .i64 m.len, .int .i64 m.cnt, .string m.data, .int .i64 m.next, .slice ma mL mc] 146)).cell? ⟨pg, po + k, none⟩ = some (.string p) ∧ (Value.slice va E vc).ownBlock ≠ some qn) := by
        have hba := (Below.refl _ w7).alloc (Nat.le_refl _) (.cells #[.int .i64 m.made, .int .i64 m.changed, .int .i64 m.ver, .int .i64 m.kids, .int .i64 m.owner, .int .i64 m.len, .int .i64 m.cnt, .string m.data, .int .i64 m.next, .slice ma mL mc] 146)
        refine ⟨(H6.out.1.later hb).later hba, by rw [hqn]; exact Cb.made w7 (k10 m (.slice ma mL mc)) _, hss.below hba, hof, Below.kept hba (Below.kept hb HPG.out.2), fun e => ?_⟩
        have h1 := (H6.out.1.row.lt qn e).2
        have h2 := hb.size
        omega
      have HW : Hid (w.heap.size ≤ wr.heap.size ∧ ∀ k, (Value.slice va E vc).ownBlock = some k → k < wr.heap.size) := ⟨H6.out.1.below.size, fun k hk => (H6.out.1.row.lt k hk).2⟩
      have HES : Hid (es.map (·.1) = t.l.take k ∧ qb < wr.heap.size) := ⟨H6.out.2, H6.out.1.blk.lt⟩
      clear hN hb hof hss hj1 hj2 hj3 hj4 hE H6
      unfold kv
      go_upto_region 7 with fail
      rw [← hqn]
      clear hqn
      generalize w7.alloc (.cells #[.int .i64 m.made, .int .i64 m.changed, .int .i64 m.ver, .int .i64 m.kids, .int .i64 m.owner, .int .i64 m.len, .int .i64 m.cnt, .string m.data, .int .i64 m.next, .slice ma mL mc] 146) = w8 at *
      refine wp_region_T (Sx11 w8.drew (.slice va E vc)) 16 (by kernel_rfl) ?_
      have H9 : Hid (Ow11 w w8.drew qb room (.slice va E vc) es (.slice (some ⟨pg, po, none⟩) pL pc) (Tq.keys t.l) ∧ Cb w8.drew qn (k10 m (.slice ma mL mc)) 146 ∧ Ss w8.drew (.slice ma mL mc) m.names ∧ w8.drew.cell? ⟨pg, po + k, none⟩ = some (.string p)) := ⟨H8.out.1.later (Below.refl _ _).drew, H8.out.2.1.below (Below.refl _ _).drew, H8.out.2.2.1.below (Below.refl _ _).drew, Below.kept (Below.refl _ _).drew H8.out.2.2.2.2.1⟩
      have HO : Hid ((m.names ≠ [] → Off11 (fun k => k < wr.heap.size) (.slice ma mL mc)) ∧ (Value.slice va E vc).ownBlock ≠ some qn) := ⟨H8.out.2.2.2.1, H8.out.2.2.2.2.2⟩
      clear H8
      generalize w8.drew = wc at *
      have HSX : Hid (Sx11 wc (.slice va E vc) wc) := fun _ _ _ => rfl
      have HQ1 : Hid (∀ w, Sx11 wc (.slice va E vc) w → w.cell? ⟨qb, 1, none⟩ = some (.slice va E vc) ∧ w.cell? ⟨pg, po + k, none⟩ = some (.string p) ∧ w.heap[qn]? = some (.cells #[.int .i64 m.made, .int .i64 m.changed, .int .i64 m.ver, .int .i64 m.kids, .int .i64 m.owner, .int .i64 m.len, .int .i64 m.cnt, .string m.data, .int .i64 m.next, .slice ma mL mc] 146)) := fun w' hs => ⟨hs.cell (H9.out.1.blk.cell 1) (H9.out.1.blk.apart H9.out.1.row (by decide)), hs.cell H9.out.2.2.2 HPG.out.1, (hs qn H9.out.2.1.lt HO.out.2).trans H9.out.2.1⟩
      refine' take_T (i := 0) (d := 30) (v := _) rfl rfl (by kernel_rfl) (by kernel_rfl) (by kernel_rfl) (by kernel_rfl) (by kernel_rfl) (fun _ _ _ h => h) (Or.inl ⟨by rfl, ?h0⟩) (HSX.out) ?_
      case h0 => intro w hSw; obtain ⟨c1, lx, _⟩ := HQ1.out w hSw; go_simp; with_reducible rfl
      simp only [sA, sB, sC]
      refine' take_T (i := 1) (d := 31) (v := _) rfl rfl (by kernel_rfl) (by kernel_rfl) (by kernel_rfl) (by kernel_rfl) (by kernel_rfl) (fun _ _ _ h => h) (Or.inl ⟨by rfl, ?h1⟩) (HSX.out) ?_
      case h1 => intro w hSw; obtain ⟨c1, lx, _⟩ := HQ1.out w hSw; go_simp; with_reducible rfl
      simp only [sA, sB, sC]
      refine' take_T (i := 2) (d := 32) (v := _) rfl rfl (by kernel_rfl) (by kernel_rfl) (by kernel_rfl) (by kernel_rfl) (by kernel_rfl) (fun _ _ _ h => h) (Or.inl ⟨by rfl, ?h2⟩) (HSX.out) ?_
      case h2 => intro w hSw; obtain ⟨c1, lx, _⟩ := HQ1.out w hSw; go_simp; with_reducible rfl
      simp only [sA, sB, sC]
      refine' take_T (i := 3) (d := 33) (v := _) rfl rfl (by kernel_rfl) (by kernel_rfl) (by kernel_rfl) (by kernel_rfl) (by kernel_rfl) (fun _ _ _ h => h) (Or.inl ⟨by rfl, ?h3⟩) (HSX.out) ?_
      case h3 => intro w hSw; obtain ⟨c1, lx, _⟩ := HQ1.out w hSw; go_simp; with_reducible rfl
      simp only [sA, sB, sC]
      refine' take_T (i := 4) (d := 34) (v := _) rfl rfl (by kernel_rfl) (by kernel_rfl) (by kernel_rfl) (by kernel_rfl) (by kernel_rfl) (fun _ _ _ h => h) (Or.inl ⟨by rfl, ?h4⟩) (HSX.out) ?_
      case h4 => intro w hSw; obtain ⟨c1, lx, _⟩ := HQ1.out w hSw; go_simp; with_reducible rfl
      simp only [sA, sB, sC]
      refine' take_T (i := 5) (d := 35) (v := _) rfl rfl (by kernel_rfl) (by kernel_rfl) (by kernel_rfl) (by kernel_rfl) (by kernel_rfl) (fun _ _ _ h => h) (Or.inl ⟨by rfl, ?h5⟩) (HSX.out) ?_
      case h5 => intro w hSw; obtain ⟨c1, lx, _⟩ := HQ1.out w hSw; go_simp; with_reducible rfl
      simp only [sA, sB, sC]
      refine' take_T (i := 6) (d := 36) (v := _) rfl rfl (by kernel_rfl) (by kernel_rfl) (by kernel_rfl) (by kernel_rfl) (by kernel_rfl) (fun _ _ _ h => h) (Or.inl ⟨by rfl, ?h6⟩) (HSX.out) ?_
      case h6 => intro w hSw; obtain ⟨c1, lx, _⟩ := HQ1.out w hSw; go_simp; with_reducible rfl
      simp only [sA, sB, sC]
      refine' take_T (i := 7) (d := 37) (v := _) rfl rfl (by kernel_rfl) (by kernel_rfl) (by kernel_rfl) (by kernel_rfl) (by kernel_rfl) (fun _ _ _ h => h) (Or.inl ⟨by rfl, ?h7⟩) (HSX.out) ?_
      case h7 => intro w hSw; obtain ⟨c1, lx, _⟩ := HQ1.out w hSw; go_simp; with_reducible rfl
      simp only [sA, sB, sC]
      refine' take_T (i := 8) (d := 38) (v := _) rfl rfl (by kernel_rfl) (by kernel_rfl) (by kernel_rfl) (by kernel_rfl) (by kernel_rfl) (fun _ _ _ h => h) (Or.inl ⟨by rfl, ?h8⟩) (HSX.out) ?_
      case h8 => intro w hSw; obtain ⟨c1, lx, _⟩ := HQ1.out w hSw; go_simp; with_reducible rfl
      simp only [sA, sB, sC]
      refine' take_T (i := 9) (d := 39) (v := _) rfl rfl (by kernel_rfl) (by kernel_rfl) (by kernel_rfl) (by kernel_rfl) (by kernel_rfl) (fun _ _ _ h => h) (Or.inl ⟨by rfl, ?h9⟩) (HSX.out) ?_
      case h9 => intro w hSw; obtain ⟨_, _, hbk⟩ := HQ1.out w hSw; have hcb : Cb w qn (k10 m (.slice ma mL mc)) 146 := hbk; have d0 : w.cell? ⟨qn, 0, none⟩ = some (.int .i64 m.made) := (hcb.cell 0).trans rfl; have d1 : w.cell? ⟨qn, 1, none⟩ = some (.int .i64 m.changed) := (hcb.cell 1).trans rfl; have d2 : w.cell? ⟨qn, 2, none⟩ = some (.int .i64 m.ver) := (hcb.cell 2).trans rfl; have d3 : w.cell? ⟨qn, 3, none⟩ = some (.int .i64 m.kids) := (hcb.cell 3).trans rfl; have d4 : w.cell? ⟨qn, 4, none⟩ = some (.int .i64 m.owner) := (hcb.cell 4).trans rfl; have d5 : w.cell? ⟨qn, 5, none⟩ = some (.int .i64 m.len) := (hcb.cell 5).trans rfl; have d6 : w.cell? ⟨qn, 6, none⟩ = some (.int .i64 m.cnt) := (hcb.cell 6).trans rfl; have d7 : w.cell? ⟨qn, 7, none⟩ = some (.string m.data) := (hcb.cell 7).trans rfl; have d8 : w.cell? ⟨qn, 8, none⟩ = some (.int .i64 m.next) := (hcb.cell 8).trans rfl; have d9 : w.cell? ⟨qn, 9, none⟩ = some (.slice ma mL mc) := (hcb.cell 9).trans rfl; go_simp; with_reducible rfl
      simp only [sA, sB, sC]
      refine wpAnyT_ready (rs := [10]) (by kernel_rfl) (by simp) ?_
      refine AllReadyT.cons (o := _) rfl (fun KQ hKQ => ?_) AllReadyT.nil
      go_simp
      refine (nd_any18 m ma mL mc wc).mono ?_
      rintro e w10 ⟨rfl, hb10⟩
      have H10 : Hid (Sx11 wc (.slice va E vc) w10 ∧ Ow11 w w10 qb room (.slice va E vc) es (.slice (some ⟨pg, po, none⟩) pL pc) (Tq.keys t.l) ∧ Ss w10 (.slice ma mL mc) m.names ∧ Below wc.heap.size wc w10) := ⟨fun k hk _ => hb10.block k hk, H9.out.1.later hb10, H9.out.2.2.1.below hb10, hb10⟩
      clear hb10
      unfold kv
      simp only []
      refine hKQ.out _ _ (fun _ => H10.out.1) ?_
      clear hKQ KQ
      refine' take_T (i := 11) (d := 41) (v := _) rfl rfl (by kernel_rfl) (by kernel_rfl) (by kernel_rfl) (by kernel_rfl) (by kernel_rfl) (fun _ _ _ h => h) (Or.inl ⟨by rfl, ?h11⟩) (H10.out.1) ?_
      case h11 => intro w hSw; go_simp; with_reducible rfl
      simp only [sA, sB, sC]
      refine wpAnyT_ready (rs := [12]) (by kernel_rfl) (by simp) ?_
      refine AllReadyT.cons (o := _) rfl (fun KQ hKQ => ?_) AllReadyT.nil
      go_simp
      obtain ⟨sb, hsb⟩ : ∃ z, z = w10.heap.size := ⟨_, rfl⟩
      rw [← hsb]
      have H11 : Hid (Sx11 wc (.slice va E vc) (w10.alloc (.cells #[.string p, .int .i64 m.made, .int .i64 m.changed, .int .i64 m.ver, .int .i64 m.kids, .int .i64 m.owner, .int .i64 m.len, .int .i64 m.cnt, .string m.data, .int .i64 m.next, .slice ma mL mc] 142)) ∧ Ow11 w (w10.alloc (.cells #[.string p, .int .i64 m.made, .int .i64 m.changed, .int .i64 m.ver, .int .i64 m.kids, .int .i64 m.owner, .int .i64 m.len, .int .i64 m.cnt, .string m.data, .int .i64 m.next, .slice ma mL mc] 142)) qb room (.slice va E vc) es (.slice (some ⟨pg, po, none⟩) pL pc) (Tq.keys t.l) ∧ Ss (w10.alloc (.cells #[.string p, .int .i64 m.made, .int .i64 m.changed, .int .i64 m.ver, .int .i64 m.kids, .int .i64 m.owner, .int .i64 m.len, .int .i64 m.cnt, .string m.data, .int .i64 m.next, .slice ma mL mc] 142)) (.slice ma mL mc) m.names ∧ Cb (w10.alloc (.cells #[.string p, .int .i64 m.made, .int .i64 m.changed, .int .i64 m.ver, .int .i64 m.kids, .int .i64 m.owner, .int .i64 m.len, .int .i64 m.cnt, .string m.data, .int .i64 m.next, .slice ma mL mc] 142)) sb (e11 (p, m) (.slice ma mL mc)) 142 ∧ wc.heap.size ≤ (w10.alloc (.cells #[.string p, .int .i64 m.made, .int .i64 m.changed, .int .i64 m.ver, .int .i64 m.kids, .int .i64 m.owner, .int .i64 m.len, .int .i64 m.cnt, .string m.data, .int .i64 m.next, .slice ma mL mc] 142)).heap.size) := by
        have hba := (Below.refl _ w10).alloc (Nat.le_refl _) (.cells #[.string p, .int .i64 m.made, .int .i64 m.changed, .int .i64 m.ver, .int .i64 m.kids, .int .i64 m.owner, .int .i64 m.len, .int .i64 m.cnt, .string m.data, .int .i64 m.next, .slice ma mL mc] 142)
        exact ⟨fun k hk hn => (hba.block k (Nat.lt_of_lt_of_le hk H10.out.2.2.2.size)).trans (H10.out.1 k hk hn), H10.out.2.1.later hba, H10.out.2.2.1.below hba, by rw [hsb]; exact Cb.made w10 (e11 (p, m) (.slice ma mL mc)) _, Nat.le_trans H10.out.2.2.2.size hba.size⟩
      clear H10 H9 hsb
      generalize (w10.alloc (.cells #[.string p, .int .i64 m.made, .int .i64 m.changed, .int .i64 m.ver, .int .i64 m.kids, .int .i64 m.owner, .int .i64 m.len, .int .i64 m.cnt, .string m.data, .int .i64 m.next, .slice ma mL mc] 142)) = w11 at *
      refine hKQ.out _ _ (fun _ => H11.out.1) ?_
      clear hKQ KQ
      refine wpAnyT_ready (rs := [13]) (by kernel_rfl) (by simp) ?_
      refine AllReadyT.cons (o := _) rfl (fun KQ hKQ => ?_) AllReadyT.nil
      refine wp_entry11 _ _ rfl w.heap.size (.slice va E vc) es ((p, m), .slice ma mL mc) sb w11 rfl rfl H11.out.2.1.row H11.out.2.1.below.size H11.out.2.2.2.1 (by have := HE.out; have h2 := congrArg List.length HES.out.1; simp only [List.length_map, List.length_take] at h2; omega) (fun u hu => by simp only [e11, k10, List.mem_cons, List.not_mem_nil, or_false] at hu; rcases hu with rfl | rfl | rfl | rfl | rfl | rfl | rfl | rfl | rfl | rfl | rfl <;> rfl) ?_
      intro v12 w12 hr12 hg12 hv12
      have H12 : Hid (Sx11 wc (.slice va E vc) w12 ∧ Cb w12 qb [.int .i64 room, .slice va E vc] 116 ∧ Ow11 w (w12.setCell ⟨qb, 1, none⟩ v12) qb room v12 (es ++ [((p, m), .slice ma mL mc)]) (.slice (some ⟨pg, po, none⟩) pL pc) (Tq.keys t.l)) := by
        have hq := H11.out.2.1.blk.apart H11.out.2.1.row (by decide)
        refine ⟨fun k hk hn => (hg12.block k (Nat.lt_of_lt_of_le hk H11.out.2.2.2.2) (fun e => hn e.symm)).trans (H11.out.1 k hk hn), H11.out.2.1.blk.keep (hg12.block qb H11.out.2.1.blk.lt (fun e => hq e.symm)), H11.out.2.1.more hg12 hr12 hv12 ⟨⟨_, _, _, rfl⟩, ⟨H11.out.2.2.1, fun hne k hk e => ?_⟩, fun hne k hk e => ?_⟩⟩
        · have h1 := HO.out.1 hne k hk
          rcases e with e | e
          · exact h1 (HW.out.2 k e)
          · exact h1 (by rw [e]; exact HES.out.2)
        · exact HO.out.1 hne k hk (Nat.lt_of_lt_of_le e HW.out.1)
      obtain ⟨va2, vc2, ev2, hj5, hj6⟩ := row_form hr12
      obtain ⟨E2, hE2⟩ : ∃ z, z = (es ++ [((p, m), Value.slice ma mL mc)]).length := ⟨_, rfl⟩
      rw [← hE2] at ev2
      subst ev2
      clear hr12 hg12 hv12 hj5 hj6 hE2 H11
      refine hKQ.out _ _ (fun _ => H12.out.1) ?_
      clear hKQ KQ
      refine' take_T (i := 14) (d := 44) (v := _) rfl rfl (by kernel_rfl) (by kernel_rfl) (by kernel_rfl) (by kernel_rfl) (by kernel_rfl) (fun _ _ _ h => h) (Or.inl ⟨by rfl, ?h14⟩) (H12.out.1) ?_
      case h14 => intro w hSw; go_simp; with_reducible rfl
      simp only [sA, sB, sC]
      refine' take_T (i := 15) (d := 45) (v := _) rfl rfl (by kernel_rfl) (by kernel_rfl) (by kernel_rfl) (by kernel_rfl) (by kernel_rfl) (fun _ _ _ h => h) (Or.inl ⟨by rfl, ?h15⟩) (H12.out.1) ?_
      case h15 => intro w hSw; go_simp; with_reducible rfl
      simp only [sA, sB, sC]
      refine wpAnyT_ready (rs := [16]) (by kernel_rfl) (by simp) ?_
      refine AllReadyT.cons (o := _) rfl (fun KQ hKQ => ?_) AllReadyT.nil
      have d1 : w12.cell? ⟨qb, 1, none⟩ = some (.slice va E vc) := (H12.out.2.1.cell 1).trans rfl
      have f1 := H12.out.2.1.free 1
      go_simp
      clear d1 f1
      have H13 : Hid (Ow11 w (w12.setCell ⟨qb, 1, none⟩ (.slice va2 E2 vc2)) qb room (.slice va2 E2 vc2) (es ++ [((p, m), .slice ma mL mc)]) (.slice (some ⟨pg, po, none⟩) pL pc) (Tq.keys t.l)) := H12.out.2.2
      clear H12
      generalize w12.setCell ⟨qb, 1, none⟩ (.slice va2 E2 vc2) = w13 at *
      refine hKQ.out _ _ (fun h => absurd rfl h) ?_
      clear hKQ KQ
      refine wpAnyT_done (by kernel_rfl) ?_ _
      go_wp2
      go_roundw
      case rel => exact ⟨k + 1, _, _, by omega, by go_num, H13.out, by rw [List.map_append, HES.out.1, List.take_add_one, HP.out.1]; rfl⟩
      case measure => simp [intOf]; omega
    · have hlt' : ¬ (k : Int) < (pL : Int) := by omega
      have HF : Hid (es.map (·.1) = t.l) := by
        have e : es.map (·.1) = t.l := by rw [H6.out.2, List.take_of_length_le (by have := HPL.out; omega)]
        exact e
      go_wp2
      go_ret
      exact ⟨qb, rfl, v, es, ⟨_, H6.out.1⟩, HF.out⟩
end Go.Proofs.YtboejbjobjhajaaGreatDoor
namespace Go.Proofs.YtboejbjobjhajaaGreatDoor.Pt
theorem loc_ps {s : St} {z n : Int} {os : List O} : (local_ s z n os).2.ps = s.ps := by
  unfold local_
  repeat' split
  all_goals rfl
theorem dec_no18 {s : St} {id : Int} (h : ∃ p ∈ s.ps, p.id = id) : decide_ s id false = (([], 0), gone s id) := by
  unfold decide_
  cases e : look s id with
  | none =>
    obtain ⟨p, hp, hi⟩ := h
    exact absurd hi (look_none e p hp)
  | some p => rfl
end Go.Proofs.YtboejbjobjhajaaGreatDoor.Pt
namespace Go.Proofs.YtboejbjobjhajaaGreatDoor
open Go.RowKit
theorem Ol.one18 {w : World} {g b N c : Nat} {os : List O} {k : Nat} {o : O} (h : Ol w (.slice (some ⟨g, b, none⟩) N c) os) (ho : os[k]? = some o) : Ol w (.slice (some ⟨g, b + k * 5, none⟩) 1 (c - k)) [o] := by
  obtain ⟨av, n, c', e, hn, hc, hnone, hs⟩ := h
  obtain ⟨rfl, rfl, rfl⟩ := Value.slice.inj e
  have hk := (List.getElem?_eq_some_iff.1 ho).1
  refine ⟨_, _, _, rfl, rfl, by omega, fun e => (by cases e), fun j x hx => ?_⟩
  cases j with
  | zero =>
    obtain ⟨g2, b2, e2, hcell⟩ := hs k o ho
    simp only [Option.some.injEq, Addr.mk.injEq, and_true] at e2
    obtain ⟨rfl, rfl⟩ := e2
    simp only [List.getElem?_cons_zero, Option.some.injEq] at hx
    subst hx
    exact ⟨g, b + k * 5, rfl, fun i u hu => by rw [Nat.zero_mul, Nat.zero_add]; have := hcell i u hu; rw [Nat.add_assoc]; exact this⟩
  | succ j => simp at hx
theorem Mine18.own {LT : Rep11} {LP : Rep18} (S : Specs11 LT) (R : SpecR11 LT) {W w : World} {q q2 m : Nat} {s : Pt.St} {F F2 : Nat → Prop} {t : Tq.Tr} (h : Mine18 LP W w q m s F) (hF : ∀ k, F k → k < w.heap.size) (ht : LT w q2 t F2) (hf : Fine11 t) (room : Int) :
    Calls Tryz.prog 38 #[dptr q2, .int .i64 room] w fun e w' => ∃ q' v es, e = .returned (dptr q') ∧ Ro11 W w' F q' room v es ∧ es.map (·.1) = t.l ∧ Below w.heap.size w w' := by
  refine (own_any18 S R q2 t F2 room w ht hf).mono ?_
  rintro e w' ⟨q', v, es, pv, rfl, hO, he⟩
  exact ⟨q', v, es, rfl, hO.ro hF h.below.size, he, hO.below⟩
theorem fine_many18 {t : Tq.Tr} (h : Fine11 t) : (∀ e ∈ t.l, e.2.names.length ≤ 1000) ∧ t.l.length ≤ 500 := ⟨fun e he => by have := (h.nodes e he).2.many; omega, by have := h.len; have := h.room; omega⟩
theorem alike18 {W w : World} {F F2 : Nat → Prop} {q q2 : Nat} {room r2 : Int} {v v2 : Value} {es es2 : List (Tq.En × Value)} {t : Tq.Tr} (h : Ro11 W w F q room v es) (h2 : Ro11 W w F2 q2 r2 v2 es2) (he : es.map (·.1) = t.l) (he2 : es2.map (·.1) = t.l) (hf : Fine11 t) :
    Calls Tryz.prog 37 #[dptr q, dptr q2] w fun e w' => e = .returned (.bool true) ∧ Below w.heap.size w w' :=
  h.same h2 (by rw [he, he2]) (by rw [he]; exact (fine_many18 hf).1) (by have h1 := congrArg List.length he; rw [List.length_map] at h1; have := (fine_many18 hf).2; omega)
end Go.Proofs.YtboejbjobjhajaaGreatDoor
