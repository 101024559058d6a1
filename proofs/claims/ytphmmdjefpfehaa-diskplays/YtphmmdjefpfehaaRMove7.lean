/- What the reference's remove and lay do. -/
import Derived.Test.YtphmmdjefpfehaaRSmall7
import Derived.Test.YtphmmdjefpfehaaHeld
import Derived.Deep.DeepCutAuto
namespace Go.Proofs.Ytphmmdjefpfehaa
open Go.RowKit

/-- A piece of the row of files. -/
theorem Fo.part {w : World} {B g cap : Nat} {ps : List (Dq.Fl × Value)} (h : Fo w B (.slice (some ⟨g, 0, none⟩) ps.length cap) ps) (k m c : Nat) (hk : k + m ≤ ps.length) : Fsrc w (.slice (some ⟨g, k * 3, none⟩) m c) ((ps.drop k).take m) := by
  have hl : ((ps.drop k).take m).length = m := by rw [List.length_take, List.length_drop]; omega
  refine Or.inr ⟨g, k * 3, c, by rw [hl], fun j x hx => ?_⟩
  have hj := (List.getElem?_eq_some_iff.1 hx).1
  rw [fcs_len, hl] at hj
  rw [h.own.cellAt (k * 3 + j) (by omega), fcs_get]
  rw [fcs_get, List.getElem?_take] at hx
  have e1 : (k * 3 + j) / 3 = k + j / 3 := by omega
  have e2 : (k * 3 + j) % 3 = j % 3 := by omega
  rw [if_pos (by omega), List.getElem?_drop] at hx
  rw [e1, e2]
  exact hx

theorem Fsrc.grown {w w' : World} {u : Value} {qs : List (Dq.Fl × Value)} {row : Option Nat} (h : Fsrc w u qs) (hg : w.grownBy w' row) (hr : ∀ k, u.ownBlock = some k → row ≠ some k) : Fsrc w' u qs := by
  rcases h with h | ⟨g, o, c, rfl, hc⟩
  · exact Or.inl h
  · refine Or.inr ⟨g, o, c, rfl, fun j x hx => ?_⟩
    have h1 := hc j x hx
    have hlt := World.block_lt_of_cell? w _ h1
    exact (World.cell?_of_block (hg.block g hlt (fun e => hr g rfl e.symm))).trans h1

theorem Fsrc.none7 (w : World) (g o c : Nat) : Fsrc w (.slice (some ⟨g, o, none⟩) 0 c) [] := Or.inr ⟨g, o, c, rfl, fun j x hx => by simp [fcs] at hx⟩

/-- The disk with another row of files. -/
theorem RefC.relaid {w w' : World} {q : Nat} {st : Dq.St} {G : Nat → Prop} {v v' : Value} {ps ps' : List (Dq.Fl × Value)} {k0 : Nat} (h : RefC w q st G v ps) (hg : w.grownBy w' (some k0)) (hk0 : w.heap.size ≤ k0) (hown : w'.ownsRow w.heap.size 47 3 v' ps'.length (fcs ps')) (hsub : ∀ p ∈ ps', w.ownsRow (q + 1) 5 1 p.2 p.1.b.length (bc p.1.b) ∧ ∀ k, p.2.ownBlock = some k → G k) :
    RefC (w'.setCell ⟨q, 1, none⟩ v') q { st with fs := ps'.map (·.1) } (Gx w w' G) v' ps' ∧ Moved w (w'.setCell ⟨q, 1, none⟩ v') G (Gx w w' G) := by
  have hq := h.lt
  have hs := hg.size
  have hqb : w'.heap[q]? = w.heap[q]? := hg.block q hq (by simp; omega)
  have hset := grownBy_setCell w' ⟨q, 1, none⟩ v'
  have hsz : (w'.setCell ⟨q, 1, none⟩ v').heap.size = w'.heap.size := by simp [World.setCell]
  have cq : ∀ (i : Nat) (x : Value), i ≠ 1 → w.cell? ⟨q, i, none⟩ = some x → (w'.setCell ⟨q, 1, none⟩ v').cell? ⟨q, i, none⟩ = some x := fun i x hi hx => by
    rw [World.cell?_setCell_other _ _ _ _ (by intro e; injection e with _ e2; omega)]
    exact (World.cell?_of_block hqb).trans hx
  refine ⟨⟨cq 0 _ (by decide) h.c0, World.cell?_setCell_same _ _ _ ((World.cell?_of_block hqb).trans h.c1), cq 2 _ (by decide) h.c2, cq 3 _ (by decide) h.c3, fun i => ?_, ⟨?_, fun p hp => ?_⟩, rfl, Or.inl h.gq, fun k hk => ?_, fun p hp k hk => Or.inl ((hsub p hp).2 k hk), fun k hk => ?_⟩, ?_⟩
  · have := (World.frozen?_of_block hqb).trans (h.free i)
    simpa using this
  · exact (hown.mono (by omega)).kept hset (Or.inr fun e => by have := (hown.lt q e).1; omega)
  · have h1 := ((hsub p hp).1.kept hg (Or.inr fun e => by have := ((hsub p hp).1.lt k0 e).2; omega))
    exact h1.kept hset (Or.inr fun e => by have := (h1.lt q e).1; omega)
  · have := hown.lt k hk
    exact Or.inr this
  · rw [hsz]
    rcases hk with hk | hk
    · exact Nat.lt_of_lt_of_le (h.glt k hk) hs
    · exact hk.2
  · refine ⟨hset.os.trans hg.os, hset.tape.trans hg.tape, hset.output.trans hg.output, by rw [hsz]; exact hs, fun k hk hG => ?_, fun k hk => ?_⟩
    · have e1 : (w'.setCell ⟨q, 1, none⟩ v').heap[k]? = w'.heap[k]? := hset.block k (by omega) (by simp; intro e; subst e; exact hG h.gq)
      rw [e1]
      exact hg.block k hk (by simp; omega)
    · rcases hk with hk | hk
      · exact Or.inl hk
      · exact Or.inr hk.1

theorem relaid_grown {w w' : World} {q k0 : Nat} {v' : Value} (hg : w.grownBy w' (some k0)) (hk0 : w.heap.size ≤ k0) : w.grownBy (w'.setCell ⟨q, 1, none⟩ v') (some q) := by
  have hset := grownBy_setCell w' ⟨q, 1, none⟩ v'
  have hs := hg.size
  exact ⟨hset.os.trans hg.os, hset.tape.trans hg.tape, hset.output.trans hg.output, Nat.le_trans hg.size hset.size, fun k hk hne => (hset.block k (by omega) hne).trans (hg.block k hk (by simp; omega))⟩

set_option maxRecDepth 20000 in
set_option maxHeartbeats 4000000 in
theorem remove_any (q i : Nat) (st : Dq.St) (G : Nat → Prop) (v : Value) (ps : List (Dq.Fl × Value)) (w : World) (hR : RefC w q st G v ps) (hi : i < ps.length) (hf : st.fs.length ≤ 1001) :
    Calls Try.prog 43 #[dptr q, .int .i64 (i : Int)] w fun e w' => ∃ G' v', e = .returned (.tuple #[]) ∧ RefC w' q { st with fs := (ps.take i ++ ps.drop (i + 1)).map (·.1) } G' v' (ps.take i ++ ps.drop (i + 1)) ∧ Moved w w' G G' ∧ w.grownBy w' (some q) := by
  have HR0 : Hid (RefC w q st G v ps) := hR
  obtain ⟨p, hp⟩ : ∃ p, ps[i]? = some p := ⟨ps[i], List.getElem?_eq_getElem hi⟩
  obtain ⟨g, cap, rfl, hcap, hBg, hgl, f0, f1, f2, f3⟩ := hR.fo.cell hp
  obtain ⟨n, hn⟩ : ∃ n, n = ps.length := ⟨_, rfl⟩
  have hn1 : n ≤ 1001 := by rw [hn, hR.len]; exact hf
  rw [← hn] at hi hcap HR0
  have HN : Hid (n = ps.length ∧ q + 1 ≤ g) := ⟨hn, hBg⟩
  clear hR hp hf hn hBg hgl f0 f1 f2 f3
  obtain ⟨wX0, hwX⟩ : ∃ W, W = w.drew := ⟨_, rfl⟩
  have HR : Hid (RefC wX0 q st G (.slice (some ⟨g, 0, none⟩) n cap) ps) := by rw [hwX]; exact HR0.out.drew
  have HMW : Hid (Moved w wX0 G G ∧ w.grownBy wX0 (some q)) := by rw [hwX]; exact ⟨Moved.of_below G (Below.refl _ _).drew, grownBy_drew w _⟩
  go_enter Try.func43, Try.ntmps43
  go_wp2_with fail
  refine wp_region_T (fun w' => w'.cell? ⟨q, 1, none⟩ = some (.slice (some ⟨g, 0, none⟩) n cap)) 19 (by kernel_rfl) ?_
  rw [← hwX]
  clear hwX
  have HSX : Hid (wX0.cell? ⟨q, 1, none⟩ = some (.slice (some ⟨g, 0, none⟩) n cap)) := HR.out.c1
  have hi1 : (i : Int) ≤ (n : Int) := by omega
  have hi2 : (i : Int) ≤ (cap : Int) := by omega
  have hi3 : (0 : Int) ≤ (i : Int) := by omega
  obtain ⟨i1, hi1'⟩ : ∃ z, z = i + 1 := ⟨_, rfl⟩
  have hwrap : IntKind.wrap .i64 ((i : Int) + 1) = (i1 : Int) := by rw [IntKind.wrap_i64]; omega
  have hi4 : (i1 : Int) ≤ (n : Int) := by omega
  have hi5 : (0 : Int) ≤ (i1 : Int) := by omega
  have hi6 : (n : Int) ≤ (cap : Int) := by omega
  have HI1 : Hid (i1 = i + 1) := hi1'
  clear hi1'
  obtain ⟨q0, hq0⟩ : ∃ z, z = wX0.heap.size := ⟨_, rfl⟩
  refine' take_T (i := 0) (d := 4) (v := _) rfl rfl (by kernel_rfl) (by kernel_rfl) (by kernel_rfl) (by kernel_rfl) (by kernel_rfl) (fun _ _ _ h => h) (Or.inl ⟨by rfl, ?h0⟩) HSX.out ?_
  case h0 => intro w hSw; go_simp; with_reducible rfl
  simp only [List.setIfInBounds_toArray, List.set_cons_zero, List.set_cons_succ]
  refine' take_T (i := 2) (d := 6) (v := _) rfl rfl (by kernel_rfl) (by kernel_rfl) (by kernel_rfl) (by kernel_rfl) (by kernel_rfl) (fun _ _ _ h => h) (Or.inl ⟨by rfl, ?h2⟩) HSX.out ?_
  case h2 => intro w hSw; go_simp; with_reducible rfl
  simp only [List.setIfInBounds_toArray, List.set_cons_zero, List.set_cons_succ]
  refine' take_T (i := 3) (d := 7) (v := _) rfl rfl (by kernel_rfl) (by kernel_rfl) (by kernel_rfl) (by kernel_rfl) (by kernel_rfl) (fun _ _ _ h => h) (Or.inl ⟨by rfl, ?h3⟩) HSX.out ?_
  case h3 => intro w hSw; go_simp; with_reducible rfl
  simp only [List.setIfInBounds_toArray, List.set_cons_zero, List.set_cons_succ]
  refine' take_T (i := 4) (d := 8) (v := _) rfl rfl (by kernel_rfl) (by kernel_rfl) (by kernel_rfl) (by kernel_rfl) (by kernel_rfl) (fun _ _ _ h => h) (Or.inl ⟨by rfl, ?h4⟩) HSX.out ?_
  case h4 => intro w hSw; go_simp; with_reducible rfl
  simp only [List.setIfInBounds_toArray, List.set_cons_zero, List.set_cons_succ]
  refine' take_T (i := 5) (d := 9) (v := _) rfl rfl (by kernel_rfl) (by kernel_rfl) (by kernel_rfl) (by kernel_rfl) (by kernel_rfl) (fun _ _ _ h => h) (Or.inl ⟨by rfl, ?h5⟩) HSX.out ?_
  case h5 => intro w hSw; have hc := hSw; go_simp; with_reducible rfl
  simp only [List.setIfInBounds_toArray, List.set_cons_zero, List.set_cons_succ]
  refine' take_T (i := 6) (d := 10) (v := _) rfl rfl (by kernel_rfl) (by kernel_rfl) (by kernel_rfl) (by kernel_rfl) (by kernel_rfl) (fun _ _ _ h => h) (Or.inl ⟨by rfl, ?h6⟩) HSX.out ?_
  case h6 => intro w hSw; go_simp; with_reducible rfl
  simp only [List.setIfInBounds_toArray, List.set_cons_zero, List.set_cons_succ]
  refine' take_T (i := 7) (d := 11) (v := _) rfl rfl (by kernel_rfl) (by kernel_rfl) (by kernel_rfl) (by kernel_rfl) (by kernel_rfl) (fun _ _ _ h => h) (Or.inl ⟨by rfl, ?h7⟩) HSX.out ?_
  case h7 => intro w hSw; go_simp; with_reducible rfl
  simp only [List.setIfInBounds_toArray, List.set_cons_zero, List.set_cons_succ]
  refine' take_T (i := 9) (d := 13) (v := _) rfl rfl (by kernel_rfl) (by kernel_rfl) (by kernel_rfl) (by kernel_rfl) (by kernel_rfl) (fun _ _ _ h => h) (Or.inl ⟨by rfl, ?h9⟩) HSX.out ?_
  case h9 => intro w hSw; go_simp; with_reducible rfl
  simp only [List.setIfInBounds_toArray, List.set_cons_zero, List.set_cons_succ]
  refine' take_T (i := 10) (d := 14) (v := _) rfl rfl (by kernel_rfl) (by kernel_rfl) (by kernel_rfl) (by kernel_rfl) (by kernel_rfl) (fun _ _ _ h => h) (Or.inl ⟨by rfl, ?h10⟩) HSX.out ?_
  case h10 => intro w hSw; go_simp; with_reducible rfl
  simp only [List.setIfInBounds_toArray, List.set_cons_zero, List.set_cons_succ]
  refine' take_T (i := 11) (d := 15) (v := _) rfl rfl (by kernel_rfl) (by kernel_rfl) (by kernel_rfl) (by kernel_rfl) (by kernel_rfl) (fun _ _ _ h => h) (Or.inl ⟨by rfl, ?h11⟩) HSX.out ?_
  case h11 => intro w hSw; go_simp; with_reducible rfl
  simp only [List.setIfInBounds_toArray, List.set_cons_zero, List.set_cons_succ]
  refine' take_T (i := 12) (d := 16) (v := _) rfl rfl (by kernel_rfl) (by kernel_rfl) (by kernel_rfl) (by kernel_rfl) (by kernel_rfl) (fun _ _ _ h => h) (Or.inl ⟨by rfl, ?h12⟩) HSX.out ?_
  case h12 => intro w hSw; have hc := hSw; go_simp; with_reducible rfl
  simp only [List.setIfInBounds_toArray, List.set_cons_zero, List.set_cons_succ]
  refine' take_T (i := 13) (d := 17) (v := _) rfl rfl (by kernel_rfl) (by kernel_rfl) (by kernel_rfl) (by kernel_rfl) (by kernel_rfl) (fun _ _ _ h => h) (Or.inl ⟨by rfl, ?h13⟩) HSX.out ?_
  case h13 => intro w hSw; go_simp; with_reducible rfl
  simp only [List.setIfInBounds_toArray, List.set_cons_zero, List.set_cons_succ]
  refine' take_T (i := 14) (d := 18) (v := _) rfl rfl (by kernel_rfl) (by kernel_rfl) (by kernel_rfl) (by kernel_rfl) (by kernel_rfl) (fun _ _ _ h => h) (Or.inl ⟨by rfl, ?h14⟩) HSX.out ?_
  case h14 => intro w hSw; go_simp; with_reducible rfl
  simp only [List.setIfInBounds_toArray, List.set_cons_zero, List.set_cons_succ]
  refine' take_T (i := 15) (d := 19) (v := _) rfl rfl (by kernel_rfl) (by kernel_rfl) (by kernel_rfl) (by kernel_rfl) (by kernel_rfl) (fun _ _ _ h => h) (Or.inl ⟨by rfl, ?h15⟩) HSX.out ?_
  case h15 => intro w hSw; go_simp; with_reducible rfl
  simp only [List.setIfInBounds_toArray, List.set_cons_zero, List.set_cons_succ]
  refine wpAnyT_ready (rs := [1]) (by kernel_rfl) (by simp) ?_
  refine AllReadyT.cons (o := _) rfl (fun K hK => ?_) AllReadyT.nil
  go_simp
  rw [← hq0]
  have HG1 : Hid (wX0.grownBy (wX0.alloc (.cells #[] 47)) (some q0)) := World.grownBy_alloc _ _ _
  have HO1 : Hid ((wX0.alloc (.cells #[] 47)).ownsRow q0 47 3 (.slice (some ⟨q0, 0, none⟩) 0 0) 0 []) := by rw [hq0]; exact World.ownsRow_made wX0 #[] 0 (Nat.le_refl _) (by decide) rfl
  have HZ1 : Hid (q0 + 1 = (wX0.alloc (.cells #[] 47)).heap.size) := by
    have h : q0 + 1 = (wX0.alloc (.cells #[] 47)).heap.size := by rw [World.size_alloc, hq0]
    exact h
  have HQ0 : Hid (q0 = wX0.heap.size) := hq0
  generalize wX0.alloc (.cells #[] 47) = wX1 at *
  clear hq0
  have HLQ : Hid (q < q0 ∧ g < q0) := ⟨by rw [HQ0.out]; exact HR.out.lt, by rw [HQ0.out]; exact HR.out.glt g (HR.out.gl g rfl)⟩
  have HS1 : Hid (wX1.cell? ⟨q, 1, none⟩ = some (.slice (some ⟨g, 0, none⟩) n cap)) := (World.cell?_of_block (HG1.out.block q HR.out.lt (by simp; have := HLQ.out.1; omega))).trans HSX.out
  have HFO : Hid (Fo wX0 (q + 1) (.slice (some ⟨g, 0, none⟩) ps.length cap) ps) := by
    have h := HR.out.fo
    rw [HN.out.1] at h
    exact h
  have HT1 : Hid (Fsrc wX0 (.slice (some ⟨g, 0, none⟩) i cap) (ps.take i)) := by
    have h := HFO.out.part 0 i cap (by rw [← HN.out.1]; omega)
    have h2 : Fsrc wX0 (.slice (some ⟨g, 0, none⟩) i cap) (ps.take i) := by simpa using h
    exact h2
  have HT2 : Hid (Fsrc wX0 (.slice (if cap = i1 then some ⟨g, 0, none⟩ else some ⟨g, i1 * 3, none⟩) (n - i1) (cap - i1)) (ps.drop i1)) := by
    by_cases hc : cap = i1
    · rw [if_pos hc]
      have e1 : n - i1 = 0 := by omega
      have e2 : ps.drop i1 = [] := List.drop_eq_nil_iff.2 (by rw [← HN.out.1]; omega)
      rw [e1, e2]
      exact Fsrc.none7 _ _ _ _
    · rw [if_neg hc]
      have h := HFO.out.part i1 (n - i1) (cap - i1) (by rw [← HN.out.1]; omega)
      rw [List.take_of_length_le (by rw [List.length_drop, ← HN.out.1]; exact Nat.le_refl _)] at h
      exact h
  obtain ⟨U, hU⟩ : ∃ u : Value, u = .slice (if cap = i1 then some ⟨g, 0, none⟩ else some ⟨g, i1 * 3, none⟩) (n - i1) (cap - i1) := ⟨_, rfl⟩
  have HUB : Hid (∀ k, U.ownBlock = some k → k = g) := fun k hk => by
    rw [hU] at hk
    by_cases hc : cap = i1
    · rw [if_pos hc] at hk
      exact (Option.some.inj hk).symm
    · rw [if_neg hc] at hk
      exact (Option.some.inj hk).symm
  rw [← hU] at HT2 ⊢
  clear hU
  refine hK.out _ _ (fun _ => HS1.out) ?_
  clear hK K
  refine wpAnyT_ready (rs := [8]) (by kernel_rfl) (by simp) ?_
  refine AllReadyT.cons (o := _) rfl (fun K hK => ?_) AllReadyT.nil
  refine wp_fs _ _ rfl q0 (.slice (some ⟨q0, 0, none⟩) 0 0) (.slice (some ⟨g, 0, none⟩) i cap) [] (ps.take i) wX1 rfl rfl HO1.out (by rw [← HZ1.out]; omega) (HT1.out.grown HG1.out (fun k hk => by cases hk; simp; have := HLQ.out.2; omega)) (fcs_one (fun p hp => HR.out.fo.bytes p (List.mem_of_mem_take hp))) (by rw [List.length_take]; simp; omega) ?_
  intro v2 wX2 ho2 hg2
  have hg2' : wX1.grownBy wX2 (some q0) := hg2
  have HG2 : Hid (wX0.grownBy wX2 (some q0)) := grownBy_trans HG1.out hg2'
  have HO2 : Hid (wX2.ownsRow q0 47 3 v2 (ps.take i).length (fcs (ps.take i))) := by
    have h : wX2.ownsRow q0 47 3 v2 (ps.take i).length (fcs (ps.take i)) := by simpa using ho2
    exact h
  obtain ⟨a2, m2, c2, rfl⟩ := slice_own ho2
  clear ho2 hg2 hg2'
  have HS2 : Hid (wX2.cell? ⟨q, 1, none⟩ = some (.slice (some ⟨g, 0, none⟩) n cap)) := (World.cell?_of_block (HG2.out.block q HR.out.lt (by simp; have := HLQ.out.1; omega))).trans HSX.out
  go_simp
  refine hK.out _ _ (fun _ => HS2.out) ?_
  clear hK K
  refine wpAnyT_ready (rs := [16]) (by kernel_rfl) (by simp) ?_
  refine AllReadyT.cons (o := _) rfl (fun K hK => ?_) AllReadyT.nil
  refine wp_fs _ _ rfl q0 (.slice a2 m2 c2) U (ps.take i) (ps.drop i1) wX2 rfl rfl HO2.out (by have := HG2.out.size; rw [HQ0.out]; exact this) (HT2.out.grown HG2.out (fun k hk => by rw [HUB.out k hk]; simp; have := HLQ.out.2; omega)) (fcs_one (fun p hp => HR.out.fo.bytes p (List.mem_of_mem_drop hp))) (by rw [List.length_take, List.length_drop]; have := HN.out.1; omega) ?_
  intro v3 wX3 ho3 hg3
  have HG3 : Hid (∃ k0, wX0.grownBy wX3 (some k0) ∧ wX0.heap.size ≤ k0) := by
    cases e : (Value.slice a2 m2 c2).ownBlock with
    | none =>
      rw [e] at hg3
      exact ⟨q0, grownBy_trans HG2.out ⟨hg3.os, hg3.tape, hg3.output, hg3.size, fun k hk _ => hg3.block k hk (by simp)⟩, by rw [HQ0.out]; exact Nat.le_refl _⟩
    | some k =>
      rw [e] at hg3
      have hk := (HO2.out.lt k e).1
      have hq := HQ0.out
      refine ⟨q0, ⟨hg3.os.trans HG2.out.os, hg3.tape.trans HG2.out.tape, hg3.output.trans HG2.out.output, Nat.le_trans HG2.out.size hg3.size, fun j hj hne => ?_⟩, by rw [hq]; exact Nat.le_refl _⟩
      exact (hg3.block j (Nat.lt_of_lt_of_le hj HG2.out.size) (by simp; omega)).trans (HG2.out.block j hj hne)
  have HO3 : Hid (wX3.ownsRow wX0.heap.size 47 3 v3 (ps.take i ++ ps.drop (i + 1)).length (fcs (ps.take i ++ ps.drop (i + 1)))) := by
    rw [← HI1.out, ← HQ0.out]
    exact ho3
  obtain ⟨a3, m3, c3, rfl⟩ := slice_own ho3
  clear ho3 hg3
  have hc3 : wX3.cell? ⟨q, 1, none⟩ = some (.slice (some ⟨g, 0, none⟩) n cap) := by
    obtain ⟨k0, h1, h2⟩ := HG3.out
    exact (World.cell?_of_block (h1.block q HR.out.lt (by simp; have := HR.out.lt; omega))).trans HSX.out
  have hf3 : wX3.frozen? ⟨q, 1, none⟩ = false := by
    obtain ⟨k0, h1, h2⟩ := HG3.out
    exact (World.frozen?_of_block (h1.block q HR.out.lt (by simp; have := HR.out.lt; omega))).trans (HR.out.free 1)
  have HFIN : Hid (RefC (wX3.setCell ⟨q, 1, none⟩ (.slice a3 m3 c3)) q { st with fs := (ps.take i ++ ps.drop (i + 1)).map (·.1) } (Gx wX0 wX3 G) (.slice a3 m3 c3) (ps.take i ++ ps.drop (i + 1)) ∧ Moved wX0 (wX3.setCell ⟨q, 1, none⟩ (.slice a3 m3 c3)) G (Gx wX0 wX3 G) ∧ wX0.grownBy (wX3.setCell ⟨q, 1, none⟩ (.slice a3 m3 c3)) (some q)) := by
    obtain ⟨k0, h1, h2⟩ := HG3.out
    refine (fun h => ⟨h.1, h.2, relaid_grown h1 h2⟩) (HR.out.relaid h1 h2 HO3.out (fun p hp => ?_))
    have hp' : p ∈ ps := by
      rcases List.mem_append.1 hp with h | h
      · exact List.mem_of_mem_take h
      · exact List.mem_of_mem_drop h
    exact ⟨HR.out.fo.bytes p hp', HR.out.gb p hp'⟩
  go_simp
  refine hK.out _ _ (fun _ => hc3) ?_
  clear hK K
  refine' take_T (i := 17) (d := 21) (v := _) rfl rfl (by kernel_rfl) (by kernel_rfl) (by kernel_rfl) (by kernel_rfl) (by kernel_rfl) (fun _ _ _ h => h) (Or.inl ⟨by rfl, ?h17⟩) hc3 ?_
  case h17 => intro w hSw; go_simp; with_reducible rfl
  simp only [List.setIfInBounds_toArray, List.set_cons_zero, List.set_cons_succ]
  refine' take_T (i := 18) (d := 22) (v := _) rfl rfl (by kernel_rfl) (by kernel_rfl) (by kernel_rfl) (by kernel_rfl) (by kernel_rfl) (fun _ _ _ h => h) (Or.inl ⟨by rfl, ?h18⟩) hc3 ?_
  case h18 => intro w hSw; go_simp; with_reducible rfl
  simp only [List.setIfInBounds_toArray, List.set_cons_zero, List.set_cons_succ]
  refine wpAnyT_ready (rs := [19]) (by kernel_rfl) (by simp) ?_
  refine AllReadyT.cons (o := _) rfl (fun K hK => ?_) AllReadyT.nil
  go_simp
  clear hc3 hf3
  refine hK.out _ _ (fun h => absurd rfl h) ?_
  clear hK K
  refine wpAnyT_done (by kernel_rfl) ?_ _
  generalize wX3.setCell ⟨q, 1, none⟩ (.slice a3 m3 c3) = wz at *
  go_wp2
  go_end0
  exact ⟨_, _, rfl, HFIN.out.1, HMW.out.1.trans HFIN.out.2.1, grownBy_trans HMW.out.2 HFIN.out.2.2⟩

theorem lay_at {f : Dq.Fl} : ∀ {fs : List Dq.Fl} {k : Nat}, k ≤ fs.length → (∀ (j : Nat) g, j < k → fs[j]? = some g → Dq.less g.name f.name = true) → (∀ g, fs[k]? = some g → Dq.less g.name f.name = false) → Dq.lay f fs = fs.take k ++ f :: fs.drop k
  | [], k, hk, _, _ => by
    have : k = 0 := by simpa using hk
    subst this
    rfl
  | a :: fs, 0, _, _, h => by
    unfold Dq.lay
    rw [h a rfl]
    rfl
  | a :: fs, k + 1, hk, hb, h => by
    unfold Dq.lay
    rw [hb 0 a (by omega) rfl, if_pos rfl, lay_at (k := k) (by simpa using hk) (fun j g hj hg => hb (j + 1) g (by omega) hg) (fun g hg => h g hg)]
    rfl

/-- A file that was boxed. -/
structure BoxF (w : World) (q : Nat) (p : Dq.Fl × Value) : Prop where
  c0 : w.cell? ⟨q, 0, none⟩ = some (.string p.1.name)
  c1 : w.cell? ⟨q, 1, none⟩ = some p.2
  c2 : w.cell? ⟨q, 2, none⟩ = some (.int .i64 (p.1.safe : Int))
theorem BoxF.made (w : World) (p : Dq.Fl × Value) (t : TypeId) : BoxF (w.alloc (.cells #[.string p.1.name, p.2, .int .i64 (p.1.safe : Int)] t)) w.heap.size p :=
  ⟨cell?_alloc_at _ _ _ _ _ _ rfl, cell?_alloc_at _ _ _ _ _ _ rfl, cell?_alloc_at _ _ _ _ _ _ rfl⟩
theorem BoxF.below {w w' : World} {q : Nat} {p : Dq.Fl × Value} (h : BoxF w q p) (hb : Below w.heap.size w w') : BoxF w' q p := ⟨Below.kept hb h.c0, Below.kept hb h.c1, Below.kept hb h.c2⟩
theorem BoxF.grown {w w' : World} {q k : Nat} {p : Dq.Fl × Value} (h : BoxF w q p) (hg : w.grownBy w' (some k)) (hk : q ≠ k) : BoxF w' q p := by
  have hb := hg.block q (World.block_lt_of_cell? w _ h.c0) (by simpa using hk)
  exact ⟨(World.cell?_of_block hb).trans h.c0, (World.cell?_of_block hb).trans h.c1, (World.cell?_of_block hb).trans h.c2⟩
theorem Fsrc.one (w : World) (p : Dq.Fl × Value) (t : TypeId) : Fsrc (w.alloc (.cells #[.string p.1.name, p.2, .int .i64 (p.1.safe : Int)] t)) (.slice (some ⟨w.heap.size, 0, none⟩) 1 1) [p] := by
  refine Or.inr ⟨w.heap.size, 0, 1, rfl, fun j x hx => ?_⟩
  rw [Nat.zero_add]
  refine cell?_alloc_at _ _ _ _ _ _ ?_
  have e : (fcs [p]) = [.string p.1.name, p.2, .int .i64 (p.1.safe : Int)] := by simp [fcs, fc]
  rw [e] at hx
  simpa using hx

theorem Fsrc.below {w w' : World} {u : Value} {qs : List (Dq.Fl × Value)} (h : Fsrc w u qs) (hb : Below w.heap.size w w') : Fsrc w' u qs := by
  rcases h with h | ⟨g, o, c, rfl, hc⟩
  · exact Or.inl h
  · exact Or.inr ⟨g, o, c, rfl, fun j x hx => Below.kept hb (hc j x hx)⟩

/-- What a lay has under way. -/
structure LayS (w wr : World) (q qf : Nat) (st : Dq.St) (G : Nat → Prop) (v : Value) (ps : List (Dq.Fl × Value)) (f : Dq.Fl) (bv : Value) : Prop where
  r : RefC wr q st G v ps
  box : BoxF wr qf (f, bv)
  own : wr.ownsRow (q + 1) 5 1 bv f.b.length (bc f.b)
  hq : q < qf
  gb : ∀ k, bv.ownBlock = some k → G k
  gf : ∀ k, G k → k < qf
  m : Moved w wr G G
theorem LayS.below {w wr w' : World} {q qf : Nat} {st : Dq.St} {G : Nat → Prop} {v bv : Value} {ps : List (Dq.Fl × Value)} {f : Dq.Fl} (h : LayS w wr q qf st G v ps f bv) (hb : Below wr.heap.size wr w') : LayS w w' q qf st G v ps f bv :=
  ⟨h.r.below hb, h.box.below hb, h.own.kept (grownBy_below (row := some wr.heap.size) hb) (Or.inr fun e => by have := (h.own.lt _ e).2; omega), h.hq, h.gb, h.gf, h.m.trans (Moved.of_below G hb)⟩

set_option linter.unusedSimpArgs false in
set_option maxRecDepth 20000 in
set_option maxHeartbeats 8000000 in
theorem refLay_any (q : Nat) (st : Dq.St) (G : Nat → Prop) (v : Value) (ps : List (Dq.Fl × Value)) (f : Dq.Fl) (bv : Value) (w : World) (hR : RefC w q st G v ps) (hf : st.fs.length ≤ 1001) (hbv : w.ownsRow (q + 1) 5 1 bv f.b.length (bc f.b)) (hbG : ∀ k, bv.ownBlock = some k → G k) :
    Calls Try.prog 40 #[dptr q, .agg #[.string f.name, bv, .int .i64 (f.safe : Int)]] w fun e w' => ∃ G' v' ps', e = .returned (.tuple #[]) ∧ RefC w' q { st with fs := Dq.lay f st.fs } G' v' ps' ∧ Moved w w' G G' := by
  obtain ⟨qf, hqf⟩ : ∃ z, z = w.heap.size := ⟨_, rfl⟩
  obtain ⟨w1, hw1⟩ : ∃ W, W = w.alloc (.cells #[.string f.name, bv, .int .i64 (f.safe : Int)] 47) := ⟨_, rfl⟩
  have hb1 : Below w.heap.size w w1 := by rw [hw1]; exact (Below.refl _ w).alloc (Nat.le_refl _) _
  have HR : Hid (LayS w w1 q qf st G v ps f bv) :=
    ⟨hR.below hb1, by rw [hw1, hqf]; exact BoxF.made w (f, bv) _, hbv.kept (grownBy_below (row := some w.heap.size) hb1) (Or.inr fun e => by have := (hbv.lt _ e).2; omega), by rw [hqf]; exact hR.lt, hbG, by rw [hqf]; exact hR.glt, Moved.of_below G hb1⟩
  obtain ⟨av, n, cv, rfl, hn, hcv, hns⟩ := hR.begin
  obtain ⟨ab, nb, cb, rfl⟩ := slice_own hbv
  have HN : Hid (n = ps.length ∧ n = st.fs.length) := ⟨hn, hns⟩
  have hn1 : n ≤ 1001 := by omega
  clear hn hns hf hR hbv hbG hb1
  go_enter Try.func40, Try.ntmps40
  go_upto_region 1 with fail
  rw [← hw1, ← hqf]
  clear hw1 hqf
  go_wp2
  go_loopw [4] (fun i wr => ∃ k : Nat, k ≤ n ∧ i = .int .i64 (k : Int) ∧ (∀ (j : Nat) g, j < k → st.fs[j]? = some g → Dq.less g.name f.name = true) ∧ LayS w wr q qf st G (.slice av n cv) ps f (.slice ab nb cb)) (fun i _ => ((n : Int) - intOf i).toNat)
  case atStart => exact ⟨0, Nat.zero_le _, rfl, fun j g hj => absurd hj (Nat.not_lt_zero _), HR.out⟩
  case round =>
    obtain ⟨k, hk, rfl, hno, hls⟩ := hrel
    have HNO : Hid (∀ (j : Nat) g, j < k → st.fs[j]? = some g → Dq.less g.name f.name = true) := hno
    have HL : Hid (LayS w wr q qf st G (.slice av n cv) ps f (.slice ab nb cb)) := hls
    clear hno hls
    have hc1 := HL.out.r.c1
    have hx0 := HL.out.box.c0
    simp only [] at hx0
    have hk0 : (0 : Int) ≤ (k : Int) := by omega
    by_cases hgo : ∃ p, ps[k]? = some p ∧ Dq.less p.1.name f.name = true
    · obtain ⟨p, hp, hless⟩ := hgo
      have hlt : k < n := by rw [HN.out.1]; exact (List.getElem?_eq_some_iff.1 hp).1
      have hlt' : (k : Int) < (n : Int) := by omega
      obtain ⟨g, cap, hv, hcap, _, _, f0, f1, f2, _⟩ := HL.out.r.fo.cell hp
      simp only [Value.slice.injEq] at hv
      obtain ⟨rfl, hq2, rfl⟩ := hv
      have HNO2 : Hid (∀ (j : Nat) g, j < k + 1 → st.fs[j]? = some g → Dq.less g.name f.name = true) := fun j g hj hg => by
        by_cases hjk : j < k
        · exact HNO.out j g hjk hg
        · obtain rfl : j = k := by omega
          have h := HL.out.r.file hp
          rw [hg] at h
          obtain rfl := Option.some.inj h
          exact hless
      unfold Dq.less at hless
      clear hq2 hp hcap
      go_wp2
      go_quiet (fail)
      clear hc1 hx0 f0 f1 f2 hless
      go_wp2
      go_roundw
      case rel => exact ⟨k + 1, by omega, by go_num, HNO2.out, HL.out.below (below_drewN (Below.refl _ _) _)⟩
      case measure => simp [intOf]; omega
    · have HLAY : Hid (Dq.lay f st.fs = st.fs.take k ++ f :: st.fs.drop k) := lay_at (by rw [← HN.out.2]; exact hk) HNO.out (fun g hg => by
        obtain ⟨bv, hb⟩ := HL.out.r.fileOf hg
        cases e : Dq.less g.name f.name with
        | false => rfl
        | true => exact absurd ⟨(g, bv), hb, e⟩ hgo)
      have HST : Hid (∀ d, LayS w (wr.drewN d) q qf st G (.slice av n cv) ps f (.slice ab nb cb)) := fun d => HL.out.below (below_drewN (Below.refl _ _) d)
      by_cases hlt : k < n
      · have hlt' : (k : Int) < (n : Int) := by omega
        obtain ⟨p, hp⟩ : ∃ p, ps[k]? = some p := ⟨ps[k]'(by rw [← HN.out.1]; exact hlt), List.getElem?_eq_getElem _⟩
        obtain ⟨g, cap, hv, hcap, _, _, f0, f1, f2, _⟩ := HL.out.r.fo.cell hp
        simp only [Value.slice.injEq] at hv
        obtain ⟨rfl, hq2, rfl⟩ := hv
        have hless : Op.bytesLess p.1.name.toList f.name.toList = false := by
          cases e : Op.bytesLess p.1.name.toList f.name.toList with
          | false => rfl
          | true => exact absurd ⟨p, hp, e⟩ hgo
        clear hq2 hp hcap hgo
        go_wp2
        go_quiet (fail)
        clear hc1 hx0 f0 f1 f2 hless
        go_wp2_with fail
        have HX0 : Hid (LayS w (wr.drewN nq).drew q qf st G (.slice (some ⟨g, 0, none⟩) n cv) ps f (.slice ab nb cb)) := (HST.out nq).below (Below.refl _ _).drew
        clear HST HL
        refine wp_region_T (fun w' => w'.cell? ⟨q, 1, none⟩ = some (.slice (some ⟨g, 0, none⟩) n cv) ∧ w'.cell? ⟨qf, 0, none⟩ = some (.string f.name) ∧ w'.cell? ⟨qf, 1, none⟩ = some (.slice ab nb cb) ∧ w'.cell? ⟨qf, 2, none⟩ = some (.int .i64 (f.safe : Int))) 21 (by kernel_rfl) ?_
        generalize (wr.drewN nq).drew = wX0 at *
        obtain ⟨b0, hb0⟩ : ∃ z, z = wX0.heap.size := ⟨_, rfl⟩
        have HB0 : Hid (b0 = wX0.heap.size ∧ Below b0 wX0 wX0) := ⟨hb0, Below.refl _ _⟩
        have HSB : Hid (∀ w', Below b0 wX0 w' → w'.cell? ⟨q, 1, none⟩ = some (.slice (some ⟨g, 0, none⟩) n cv) ∧ w'.cell? ⟨qf, 0, none⟩ = some (.string f.name) ∧ w'.cell? ⟨qf, 1, none⟩ = some (.slice ab nb cb) ∧ w'.cell? ⟨qf, 2, none⟩ = some (.int .i64 (f.safe : Int))) := fun w' hb => by
          rw [hb0] at hb
          exact ⟨Below.kept hb HX0.out.r.c1, Below.kept hb HX0.out.box.c0, Below.kept hb HX0.out.box.c1, Below.kept hb HX0.out.box.c2⟩
        have HSX : Hid (wX0.cell? ⟨q, 1, none⟩ = some (.slice (some ⟨g, 0, none⟩) n cv) ∧ wX0.cell? ⟨qf, 0, none⟩ = some (.string f.name) ∧ wX0.cell? ⟨qf, 1, none⟩ = some (.slice ab nb cb) ∧ wX0.cell? ⟨qf, 2, none⟩ = some (.int .i64 (f.safe : Int))) := HSB.out _ HB0.out.2
        have HSZ : Hid (∀ w', Below b0 wX0 w' → b0 ≤ w'.heap.size) := fun w' hb => by rw [hb0]; exact hb.size
        have HSR : Hid (∀ w' u qs, Below b0 wX0 w' → Fsrc wX0 u qs → Fsrc w' u qs) := fun w' u qs hb h => h.below (by rw [hb0] at hb; exact hb)
        clear hb0
        have hi1 : (k : Int) ≤ (n : Int) := by omega
        have hi2 : (k : Int) ≤ (cv : Int) := by omega
        have hi6 : (n : Int) ≤ (cv : Int) := by omega
        refine' take_T (i := 0) (d := 27) (v := _) rfl rfl (by kernel_rfl) (by kernel_rfl) (by kernel_rfl) (by kernel_rfl) (by kernel_rfl) (fun _ _ _ h => h) (Or.inl ⟨by rfl, ?h0⟩) HSX.out ?_
        case h0 => intro w hSw; go_simp; with_reducible rfl
        simp only [List.setIfInBounds_toArray, List.set_cons_zero, List.set_cons_succ]
        refine' take_T (i := 2) (d := 29) (v := _) rfl rfl (by kernel_rfl) (by kernel_rfl) (by kernel_rfl) (by kernel_rfl) (by kernel_rfl) (fun _ _ _ h => h) (Or.inl ⟨by rfl, ?h2⟩) HSX.out ?_
        case h2 => intro w hSw; go_simp; with_reducible rfl
        simp only [List.setIfInBounds_toArray, List.set_cons_zero, List.set_cons_succ]
        refine' take_T (i := 3) (d := 30) (v := _) rfl rfl (by kernel_rfl) (by kernel_rfl) (by kernel_rfl) (by kernel_rfl) (by kernel_rfl) (fun _ _ _ h => h) (Or.inl ⟨by rfl, ?h3⟩) HSX.out ?_
        case h3 => intro w hSw; go_simp; with_reducible rfl
        simp only [List.setIfInBounds_toArray, List.set_cons_zero, List.set_cons_succ]
        refine' take_T (i := 4) (d := 31) (v := _) rfl rfl (by kernel_rfl) (by kernel_rfl) (by kernel_rfl) (by kernel_rfl) (by kernel_rfl) (fun _ _ _ h => h) (Or.inl ⟨by rfl, ?h4⟩) HSX.out ?_
        case h4 => intro w hSw; go_simp; with_reducible rfl
        simp only [List.setIfInBounds_toArray, List.set_cons_zero, List.set_cons_succ]
        refine' take_T (i := 5) (d := 32) (v := _) rfl rfl (by kernel_rfl) (by kernel_rfl) (by kernel_rfl) (by kernel_rfl) (by kernel_rfl) (fun _ _ _ h => h) (Or.inl ⟨by rfl, ?h5⟩) HSX.out ?_
        case h5 => intro w hSw; obtain ⟨hs1, hs2, hs3, hs4⟩ := hSw; go_simp; with_reducible rfl
        simp only [List.setIfInBounds_toArray, List.set_cons_zero, List.set_cons_succ]
        refine' take_T (i := 6) (d := 33) (v := _) rfl rfl (by kernel_rfl) (by kernel_rfl) (by kernel_rfl) (by kernel_rfl) (by kernel_rfl) (fun _ _ _ h => h) (Or.inl ⟨by rfl, ?h6⟩) HSX.out ?_
        case h6 => intro w hSw; go_simp; with_reducible rfl
        simp only [List.setIfInBounds_toArray, List.set_cons_zero, List.set_cons_succ]
        refine' take_T (i := 7) (d := 34) (v := _) rfl rfl (by kernel_rfl) (by kernel_rfl) (by kernel_rfl) (by kernel_rfl) (by kernel_rfl) (fun _ _ _ h => h) (Or.inl ⟨by rfl, ?h7⟩) HSX.out ?_
        case h7 => intro w hSw; go_simp; with_reducible rfl
        simp only [List.setIfInBounds_toArray, List.set_cons_zero, List.set_cons_succ]
        refine' take_T (i := 9) (d := 36) (v := _) rfl rfl (by kernel_rfl) (by kernel_rfl) (by kernel_rfl) (by kernel_rfl) (by kernel_rfl) (fun _ _ _ h => h) (Or.inl ⟨by rfl, ?h9⟩) HSX.out ?_
        case h9 => intro w hSw; obtain ⟨hs1, hs2, hs3, hs4⟩ := hSw; go_simp; with_reducible rfl
        simp only [List.setIfInBounds_toArray, List.set_cons_zero, List.set_cons_succ]
        refine' take_T (i := 12) (d := 39) (v := _) rfl rfl (by kernel_rfl) (by kernel_rfl) (by kernel_rfl) (by kernel_rfl) (by kernel_rfl) (fun _ _ _ h => h) (Or.inl ⟨by rfl, ?h12⟩) HSX.out ?_
        case h12 => intro w hSw; go_simp; with_reducible rfl
        simp only [List.setIfInBounds_toArray, List.set_cons_zero, List.set_cons_succ]
        refine' take_T (i := 13) (d := 40) (v := _) rfl rfl (by kernel_rfl) (by kernel_rfl) (by kernel_rfl) (by kernel_rfl) (by kernel_rfl) (fun _ _ _ h => h) (Or.inl ⟨by rfl, ?h13⟩) HSX.out ?_
        case h13 => intro w hSw; go_simp; with_reducible rfl
        simp only [List.setIfInBounds_toArray, List.set_cons_zero, List.set_cons_succ]
        refine' take_T (i := 14) (d := 41) (v := _) rfl rfl (by kernel_rfl) (by kernel_rfl) (by kernel_rfl) (by kernel_rfl) (by kernel_rfl) (fun _ _ _ h => h) (Or.inl ⟨by rfl, ?h14⟩) HSX.out ?_
        case h14 => intro w hSw; go_simp; with_reducible rfl
        simp only [List.setIfInBounds_toArray, List.set_cons_zero, List.set_cons_succ]
        refine' take_T (i := 15) (d := 42) (v := _) rfl rfl (by kernel_rfl) (by kernel_rfl) (by kernel_rfl) (by kernel_rfl) (by kernel_rfl) (fun _ _ _ h => h) (Or.inl ⟨by rfl, ?h15⟩) HSX.out ?_
        case h15 => intro w hSw; obtain ⟨hs1, hs2, hs3, hs4⟩ := hSw; go_simp; with_reducible rfl
        simp only [List.setIfInBounds_toArray, List.set_cons_zero, List.set_cons_succ]
        refine' take_T (i := 16) (d := 43) (v := _) rfl rfl (by kernel_rfl) (by kernel_rfl) (by kernel_rfl) (by kernel_rfl) (by kernel_rfl) (fun _ _ _ h => h) (Or.inl ⟨by rfl, ?h16⟩) HSX.out ?_
        case h16 => intro w hSw; go_simp; with_reducible rfl
        simp only [List.setIfInBounds_toArray, List.set_cons_zero, List.set_cons_succ]
        refine' take_T (i := 17) (d := 44) (v := _) rfl rfl (by kernel_rfl) (by kernel_rfl) (by kernel_rfl) (by kernel_rfl) (by kernel_rfl) (fun _ _ _ h => h) (Or.inl ⟨by rfl, ?h17⟩) HSX.out ?_
        case h17 => intro w hSw; go_simp; with_reducible rfl
        simp only [List.setIfInBounds_toArray, List.set_cons_zero, List.set_cons_succ]
        have HT1 : Hid (Fsrc wX0 (.slice (some ⟨g, 0, none⟩) k cv) (ps.take k)) := by
          have h := HX0.out.r.fo
          rw [HN.out.1] at h
          have h := h.part 0 k cv (by rw [← HN.out.1]; omega)
          have h2 : Fsrc wX0 (.slice (some ⟨g, 0, none⟩) k cv) (ps.take k) := by simpa using h
          exact h2
        have HT2 : Hid (Fsrc wX0 (.slice (if cv = k then some ⟨g, 0, none⟩ else some ⟨g, k * 3, none⟩) (n - k) (cv - k)) (ps.drop k)) := by
          by_cases hc : cv = k
          · rw [if_pos hc]
            have e1 : n - k = 0 := by omega
            have e2 : ps.drop k = [] := List.drop_eq_nil_iff.2 (by rw [← HN.out.1]; omega)
            rw [e1, e2]
            exact Fsrc.none7 _ _ _ _
          · rw [if_neg hc]
            have h := HX0.out.r.fo
            rw [HN.out.1] at h
            have h := h.part k (ps.length - k) (cv - k) (by have := HN.out.1; omega)
            rw [List.take_of_length_le (by rw [List.length_drop]; exact Nat.le_refl _)] at h
            rw [HN.out.1]
            exact h
        obtain ⟨U, hU⟩ : ∃ u : Value, u = .slice (if cv = k then some ⟨g, 0, none⟩ else some ⟨g, k * 3, none⟩) (n - k) (cv - k) := ⟨_, rfl⟩
        rw [← hU] at HT2 ⊢
        clear hU
        refine wpAnyT_ready (rs := [1, 10]) (by kernel_rfl) (by simp) ?_
        refine AllReadyT.cons (o := _) rfl (fun K hK => ?_) (AllReadyT.cons (o := _) rfl (fun K hK => ?_) AllReadyT.nil)
        · go_simp
          obtain ⟨q0, hqq⟩ : ∃ z, z = wX0.heap.size := ⟨_, rfl⟩
          rw [← hqq]
          have HEB : Hid (Below b0 wX0 (wX0.alloc (.cells #[] 47))) := HB0.out.2.alloc (HSZ.out _ HB0.out.2) _
          have HE1 : Hid ((wX0.alloc (.cells #[] 47)).ownsRow b0 47 3 (.slice (some ⟨q0, 0, none⟩) 0 0) 0 [] ∧ b0 ≤ q0 ∧ q0 < (wX0.alloc (.cells #[] 47)).heap.size) := ⟨by rw [hqq]; exact (World.ownsRow_made wX0 #[] 0 (Nat.le_refl _) (by decide) rfl).mono (HSZ.out _ HB0.out.2), by rw [hqq]; exact HSZ.out _ HB0.out.2, by rw [World.size_alloc, hqq]; omega⟩
          clear hqq
          generalize wX0.alloc (.cells #[] 47) = wX1 at *
          refine hK.out _ _ (fun _ => (HSB.out _ HEB.out)) ?_
          clear hK K
          refine wpAnyT_ready (rs := [8, 10]) (by kernel_rfl) (by simp) ?_
          refine AllReadyT.cons (o := _) rfl (fun K hK => ?_) (AllReadyT.cons (o := _) rfl (fun K hK => ?_) AllReadyT.nil)
          · refine wp_fs _ _ rfl b0 (.slice (some ⟨q0, 0, none⟩) 0 0) (.slice (some ⟨g, 0, none⟩) k cv) [] (ps.take k) wX1 rfl rfl HE1.out.1 (HSZ.out _ HEB.out) (HSR.out _ _ _ HEB.out HT1.out) (fcs_one (fun p hp => HX0.out.r.fo.bytes p (List.mem_of_mem_take hp))) (by have := HN.out.1; simp only [List.length_take, List.length_nil, List.length_cons]; omega) ?_
            intro v2 wX2 ho2 hg2
            have HO2 : Hid (wX2.ownsRow b0 47 3 v2 (ps.take k).length (fcs (ps.take k))) := by
              have h : wX2.ownsRow b0 47 3 v2 (ps.take k).length (fcs (ps.take k)) := by simpa using ho2
              exact h
            have hg2' : wX1.grownBy wX2 (some q0) := hg2
            have HB2 : Hid (Below b0 wX0 wX2) := HEB.out.grown hg2' (HSZ.out _ HEB.out) (fun z hz => by simp at hz; have := HE1.out.2.1; omega)
            obtain ⟨a2, m2, c2, rfl⟩ := slice_own ho2
            clear ho2 hg2 hg2'
            go_simp
            refine hK.out _ _ (fun _ => (HSB.out _ HB2.out)) ?_
            clear hK K
            refine wpAnyT_ready (rs := [10]) (by kernel_rfl) (by simp) ?_
            refine AllReadyT.cons (o := _) rfl (fun K hK => ?_) AllReadyT.nil
            go_simp
            obtain ⟨qz, hqz⟩ : ∃ z, z = wX2.heap.size := ⟨_, rfl⟩
            rw [← hqz]
            have HOB : Hid (Below b0 wX0 (wX2.alloc (.cells #[.string f.name, .slice ab nb cb, .int .i64 (f.safe : Int)] 47))) := HB2.out.alloc (HSZ.out _ HB2.out) _
            have HF1 : Hid (Fsrc (wX2.alloc (.cells #[.string f.name, .slice ab nb cb, .int .i64 (f.safe : Int)] 47)) (.slice (some ⟨qz, 0, none⟩) 1 1) [(f, Value.slice ab nb cb)]) := by rw [hqz]; exact Fsrc.one wX2 (f, .slice ab nb cb) _
            have HO2X : Hid ((wX2.alloc (.cells #[.string f.name, .slice ab nb cb, .int .i64 (f.safe : Int)] 47)).ownsRow b0 47 3 (.slice a2 m2 c2) (ps.take k).length (fcs (ps.take k))) := HO2.out.alloc _
            clear hqz
            generalize wX2.alloc (.cells #[.string f.name, .slice ab nb cb, .int .i64 (f.safe : Int)] 47) = wX3 at *
            refine hK.out _ _ (fun _ => (HSB.out _ HOB.out)) ?_
            clear hK K
            refine wpAnyT_ready (rs := [11]) (by kernel_rfl) (by simp) ?_
            refine AllReadyT.cons (o := _) rfl (fun K hK => ?_) AllReadyT.nil
            refine wp_fs _ _ rfl b0 (.slice a2 m2 c2) (.slice (some ⟨qz, 0, none⟩) 1 1) (ps.take k) [(f, Value.slice ab nb cb)] wX3 rfl rfl HO2X.out (HSZ.out _ HOB.out) HF1.out (fcs_one (w := wX0) (B := q + 1) (fun p hp => by simp at hp; subst hp; exact HX0.out.own)) (by have := HN.out.1; simp only [List.length_take, List.length_nil, List.length_cons]; omega) ?_
            intro v3 wX4 ho3 hg3
            have HO3 : Hid (wX4.ownsRow b0 47 3 v3 (ps.take k ++ [(f, Value.slice ab nb cb)]).length (fcs (ps.take k ++ [(f, Value.slice ab nb cb)]))) := ho3
            have HB4 : Hid (Below b0 wX0 wX4) := HOB.out.grown hg3 (HSZ.out _ HOB.out) (fun z hz => (HO2X.out.lt z hz).1)
            obtain ⟨a3, m3, c3, rfl⟩ := slice_own ho3
            clear ho3 hg3
            go_simp
            refine hK.out _ _ (fun _ => (HSB.out _ HB4.out)) ?_
            clear hK K
            refine wpAnyT_ready (rs := [18]) (by kernel_rfl) (by simp) ?_
            refine AllReadyT.cons (o := _) rfl (fun K hK => ?_) AllReadyT.nil
            refine wp_fs _ _ rfl b0 (.slice a3 m3 c3) U (ps.take k ++ [(f, Value.slice ab nb cb)]) (ps.drop k) wX4 rfl rfl HO3.out (HSZ.out _ HB4.out) (HSR.out _ _ _ HB4.out HT2.out) (fcs_one (fun p hp => HX0.out.r.fo.bytes p (List.mem_of_mem_drop hp))) (by have := HN.out.1; simp only [List.length_append, List.length_take, List.length_drop, List.length_nil, List.length_cons]; omega) ?_
            intro v4 wX5 ho4 hg4
            have HB5 : Hid (Below b0 wX0 wX5) := HB4.out.grown hg4 (HSZ.out _ HB4.out) (fun z hz => (HO3.out.lt z hz).1)
            have HO4 : Hid (wX5.ownsRow wX0.heap.size 47 3 v4 (ps.take k ++ [(f, Value.slice ab nb cb)] ++ ps.drop k).length (fcs (ps.take k ++ [(f, Value.slice ab nb cb)] ++ ps.drop k))) := by rw [← HB0.out.1]; exact ho4
            obtain ⟨a4, m4, c4, rfl⟩ := slice_own ho4
            clear ho4 hg4
            have HB5' : Hid (Below wX0.heap.size wX0 wX5) := by rw [← HB0.out.1]; exact HB5.out
            have hc5 := (HSB.out _ HB5.out).1
            have hf5 : wX5.frozen? ⟨q, 1, none⟩ = false := (World.frozen?_of_block (HB5'.out.block q HX0.out.r.lt)).trans (HX0.out.r.free 1)
            have HFIN : Hid (RefC (wX5.setCell ⟨q, 1, none⟩ (.slice a4 m4 c4)) q { st with fs := (ps.take k ++ [(f, Value.slice ab nb cb)] ++ ps.drop k).map (·.1) } (Gx wX0 wX5 G) (.slice a4 m4 c4) (ps.take k ++ [(f, Value.slice ab nb cb)] ++ ps.drop k) ∧ Moved wX0 (wX5.setCell ⟨q, 1, none⟩ (.slice a4 m4 c4)) G (Gx wX0 wX5 G)) := by
              refine HX0.out.r.relaid (grownBy_below (row := some wX0.heap.size) HB5'.out) (Nat.le_refl _) HO4.out (fun p hp => ?_)
              simp only [List.mem_append, List.mem_cons, List.not_mem_nil, or_false] at hp
              rcases hp with (hp | hp) | hp
              · exact ⟨HX0.out.r.fo.bytes p (List.mem_of_mem_take hp), HX0.out.r.gb p (List.mem_of_mem_take hp)⟩
              · subst hp
                exact ⟨HX0.out.own, HX0.out.gb⟩
              · exact ⟨HX0.out.r.fo.bytes p (List.mem_of_mem_drop hp), HX0.out.r.gb p (List.mem_of_mem_drop hp)⟩
            have HFS : Hid ((ps.take k ++ [(f, Value.slice ab nb cb)] ++ ps.drop k).map (·.1) = Dq.lay f st.fs) := by
              have h : (ps.take k ++ [(f, Value.slice ab nb cb)] ++ ps.drop k).map (·.1) = Dq.lay f st.fs := by
                rw [HLAY.out, ← HX0.out.r.fs]
                simp [List.map_take, List.map_drop]
              exact h
            rw [HFS.out] at HFIN
            go_simp
            refine hK.out _ _ (fun _ => (HSB.out _ HB5.out)) ?_
            clear hK K
            refine' take_T (i := 19) (d := 46) (v := _) rfl rfl (by kernel_rfl) (by kernel_rfl) (by kernel_rfl) (by kernel_rfl) (by kernel_rfl) (fun _ _ _ h => h) (Or.inl ⟨by rfl, ?h19⟩) (HSB.out _ HB5.out) ?_
            case h19 => intro w hSw; go_simp; with_reducible rfl
            simp only [List.setIfInBounds_toArray, List.set_cons_zero, List.set_cons_succ]
            refine' take_T (i := 20) (d := 47) (v := _) rfl rfl (by kernel_rfl) (by kernel_rfl) (by kernel_rfl) (by kernel_rfl) (by kernel_rfl) (fun _ _ _ h => h) (Or.inl ⟨by rfl, ?h20⟩) (HSB.out _ HB5.out) ?_
            case h20 => intro w hSw; go_simp; with_reducible rfl
            simp only [List.setIfInBounds_toArray, List.set_cons_zero, List.set_cons_succ]
            refine wpAnyT_ready (rs := [21]) (by kernel_rfl) (by simp) ?_
            refine AllReadyT.cons (o := _) rfl (fun K hK => ?_) AllReadyT.nil
            go_simp
            clear hc5 hf5
            refine hK.out _ _ (fun h => absurd rfl h) ?_
            clear hK K
            refine wpAnyT_done (by kernel_rfl) ?_ _
            generalize wX5.setCell ⟨q, 1, none⟩ (.slice a4 m4 c4) = wz at *
            go_wp2
            go_end0
            exact ⟨_, _, _, rfl, HFIN.out.1, HX0.out.m.trans HFIN.out.2⟩
          · go_simp
            obtain ⟨qz, hqz⟩ : ∃ z, z = wX1.heap.size := ⟨_, rfl⟩
            rw [← hqz]
            have HOB : Hid (Below b0 wX0 (wX1.alloc (.cells #[.string f.name, .slice ab nb cb, .int .i64 (f.safe : Int)] 47))) := HEB.out.alloc (HSZ.out _ HEB.out) _
            have HF1 : Hid (Fsrc (wX1.alloc (.cells #[.string f.name, .slice ab nb cb, .int .i64 (f.safe : Int)] 47)) (.slice (some ⟨qz, 0, none⟩) 1 1) [(f, Value.slice ab nb cb)]) := by rw [hqz]; exact Fsrc.one wX1 (f, .slice ab nb cb) _
            have HEX : Hid ((wX1.alloc (.cells #[.string f.name, .slice ab nb cb, .int .i64 (f.safe : Int)] 47)).ownsRow b0 47 3 (.slice (some ⟨q0, 0, none⟩) 0 0) 0 [] ∧ q0 ≠ qz) := ⟨HE1.out.1.alloc _, by have := HE1.out.2.2; omega⟩
            clear hqz
            generalize wX1.alloc (.cells #[.string f.name, .slice ab nb cb, .int .i64 (f.safe : Int)] 47) = wX2 at *
            refine hK.out _ _ (fun _ => (HSB.out _ HOB.out)) ?_
            clear hK K
            refine wpAnyT_ready (rs := [8]) (by kernel_rfl) (by simp) ?_
            refine AllReadyT.cons (o := _) rfl (fun K hK => ?_) AllReadyT.nil
            refine wp_fs _ _ rfl b0 (.slice (some ⟨q0, 0, none⟩) 0 0) (.slice (some ⟨g, 0, none⟩) k cv) [] (ps.take k) wX2 rfl rfl HEX.out.1 (HSZ.out _ HOB.out) (HSR.out _ _ _ HOB.out HT1.out) (fcs_one (fun p hp => HX0.out.r.fo.bytes p (List.mem_of_mem_take hp))) (by have := HN.out.1; simp only [List.length_take, List.length_nil, List.length_cons]; omega) ?_
            intro v2 wX3 ho2 hg2
            have HO2 : Hid (wX3.ownsRow b0 47 3 v2 (ps.take k).length (fcs (ps.take k))) := by
              have h : wX3.ownsRow b0 47 3 v2 (ps.take k).length (fcs (ps.take k)) := by simpa using ho2
              exact h
            have hg2' : wX2.grownBy wX3 (some q0) := hg2
            have HB2 : Hid (Below b0 wX0 wX3) := HOB.out.grown hg2' (HSZ.out _ HOB.out) (fun z hz => by simp at hz; have := HE1.out.2.1; omega)
            have HF2 : Hid (Fsrc wX3 (.slice (some ⟨qz, 0, none⟩) 1 1) [(f, Value.slice ab nb cb)]) := HF1.out.grown hg2' (fun z hz => by cases hz; simp; exact HEX.out.2)
            obtain ⟨a2, m2, c2, rfl⟩ := slice_own ho2
            clear ho2 hg2 hg2'
            go_simp
            refine hK.out _ _ (fun _ => (HSB.out _ HB2.out)) ?_
            clear hK K
            refine wpAnyT_ready (rs := [11]) (by kernel_rfl) (by simp) ?_
            refine AllReadyT.cons (o := _) rfl (fun K hK => ?_) AllReadyT.nil
            refine wp_fs _ _ rfl b0 (.slice a2 m2 c2) (.slice (some ⟨qz, 0, none⟩) 1 1) (ps.take k) [(f, Value.slice ab nb cb)] wX3 rfl rfl HO2.out (HSZ.out _ HB2.out) HF2.out (fcs_one (w := wX0) (B := q + 1) (fun p hp => by simp at hp; subst hp; exact HX0.out.own)) (by have := HN.out.1; simp only [List.length_take, List.length_nil, List.length_cons]; omega) ?_
            intro v3 wX4 ho3 hg3
            have HO3 : Hid (wX4.ownsRow b0 47 3 v3 (ps.take k ++ [(f, Value.slice ab nb cb)]).length (fcs (ps.take k ++ [(f, Value.slice ab nb cb)]))) := ho3
            have HB4 : Hid (Below b0 wX0 wX4) := HB2.out.grown hg3 (HSZ.out _ HB2.out) (fun z hz => (HO2.out.lt z hz).1)
            obtain ⟨a3, m3, c3, rfl⟩ := slice_own ho3
            clear ho3 hg3
            go_simp
            refine hK.out _ _ (fun _ => (HSB.out _ HB4.out)) ?_
            clear hK K
            refine wpAnyT_ready (rs := [18]) (by kernel_rfl) (by simp) ?_
            refine AllReadyT.cons (o := _) rfl (fun K hK => ?_) AllReadyT.nil
            refine wp_fs _ _ rfl b0 (.slice a3 m3 c3) U (ps.take k ++ [(f, Value.slice ab nb cb)]) (ps.drop k) wX4 rfl rfl HO3.out (HSZ.out _ HB4.out) (HSR.out _ _ _ HB4.out HT2.out) (fcs_one (fun p hp => HX0.out.r.fo.bytes p (List.mem_of_mem_drop hp))) (by have := HN.out.1; simp only [List.length_append, List.length_take, List.length_drop, List.length_nil, List.length_cons]; omega) ?_
            intro v4 wX5 ho4 hg4
            have HB5 : Hid (Below b0 wX0 wX5) := HB4.out.grown hg4 (HSZ.out _ HB4.out) (fun z hz => (HO3.out.lt z hz).1)
            have HO4 : Hid (wX5.ownsRow wX0.heap.size 47 3 v4 (ps.take k ++ [(f, Value.slice ab nb cb)] ++ ps.drop k).length (fcs (ps.take k ++ [(f, Value.slice ab nb cb)] ++ ps.drop k))) := by rw [← HB0.out.1]; exact ho4
            obtain ⟨a4, m4, c4, rfl⟩ := slice_own ho4
            clear ho4 hg4
            have HB5' : Hid (Below wX0.heap.size wX0 wX5) := by rw [← HB0.out.1]; exact HB5.out
            have hc5 := (HSB.out _ HB5.out).1
            have hf5 : wX5.frozen? ⟨q, 1, none⟩ = false := (World.frozen?_of_block (HB5'.out.block q HX0.out.r.lt)).trans (HX0.out.r.free 1)
            have HFIN : Hid (RefC (wX5.setCell ⟨q, 1, none⟩ (.slice a4 m4 c4)) q { st with fs := (ps.take k ++ [(f, Value.slice ab nb cb)] ++ ps.drop k).map (·.1) } (Gx wX0 wX5 G) (.slice a4 m4 c4) (ps.take k ++ [(f, Value.slice ab nb cb)] ++ ps.drop k) ∧ Moved wX0 (wX5.setCell ⟨q, 1, none⟩ (.slice a4 m4 c4)) G (Gx wX0 wX5 G)) := by
              refine HX0.out.r.relaid (grownBy_below (row := some wX0.heap.size) HB5'.out) (Nat.le_refl _) HO4.out (fun p hp => ?_)
              simp only [List.mem_append, List.mem_cons, List.not_mem_nil, or_false] at hp
              rcases hp with (hp | hp) | hp
              · exact ⟨HX0.out.r.fo.bytes p (List.mem_of_mem_take hp), HX0.out.r.gb p (List.mem_of_mem_take hp)⟩
              · subst hp
                exact ⟨HX0.out.own, HX0.out.gb⟩
              · exact ⟨HX0.out.r.fo.bytes p (List.mem_of_mem_drop hp), HX0.out.r.gb p (List.mem_of_mem_drop hp)⟩
            have HFS : Hid ((ps.take k ++ [(f, Value.slice ab nb cb)] ++ ps.drop k).map (·.1) = Dq.lay f st.fs) := by
              have h : (ps.take k ++ [(f, Value.slice ab nb cb)] ++ ps.drop k).map (·.1) = Dq.lay f st.fs := by
                rw [HLAY.out, ← HX0.out.r.fs]
                simp [List.map_take, List.map_drop]
              exact h
            rw [HFS.out] at HFIN
            go_simp
            refine hK.out _ _ (fun _ => (HSB.out _ HB5.out)) ?_
            clear hK K
            refine' take_T (i := 19) (d := 46) (v := _) rfl rfl (by kernel_rfl) (by kernel_rfl) (by kernel_rfl) (by kernel_rfl) (by kernel_rfl) (fun _ _ _ h => h) (Or.inl ⟨by rfl, ?h19⟩) (HSB.out _ HB5.out) ?_
            case h19 => intro w hSw; go_simp; with_reducible rfl
            simp only [List.setIfInBounds_toArray, List.set_cons_zero, List.set_cons_succ]
            refine' take_T (i := 20) (d := 47) (v := _) rfl rfl (by kernel_rfl) (by kernel_rfl) (by kernel_rfl) (by kernel_rfl) (by kernel_rfl) (fun _ _ _ h => h) (Or.inl ⟨by rfl, ?h20⟩) (HSB.out _ HB5.out) ?_
            case h20 => intro w hSw; go_simp; with_reducible rfl
            simp only [List.setIfInBounds_toArray, List.set_cons_zero, List.set_cons_succ]
            refine wpAnyT_ready (rs := [21]) (by kernel_rfl) (by simp) ?_
            refine AllReadyT.cons (o := _) rfl (fun K hK => ?_) AllReadyT.nil
            go_simp
            clear hc5 hf5
            refine hK.out _ _ (fun h => absurd rfl h) ?_
            clear hK K
            refine wpAnyT_done (by kernel_rfl) ?_ _
            generalize wX5.setCell ⟨q, 1, none⟩ (.slice a4 m4 c4) = wz at *
            go_wp2
            go_end0
            exact ⟨_, _, _, rfl, HFIN.out.1, HX0.out.m.trans HFIN.out.2⟩
        · go_simp
          obtain ⟨qz, hqz⟩ : ∃ z, z = wX0.heap.size := ⟨_, rfl⟩
          rw [← hqz]
          have HOB : Hid (Below b0 wX0 (wX0.alloc (.cells #[.string f.name, .slice ab nb cb, .int .i64 (f.safe : Int)] 47))) := HB0.out.2.alloc (HSZ.out _ HB0.out.2) _
          have HF1 : Hid (Fsrc (wX0.alloc (.cells #[.string f.name, .slice ab nb cb, .int .i64 (f.safe : Int)] 47)) (.slice (some ⟨qz, 0, none⟩) 1 1) [(f, Value.slice ab nb cb)]) := by rw [hqz]; exact Fsrc.one wX0 (f, .slice ab nb cb) _
          have HZL : Hid (qz < (wX0.alloc (.cells #[.string f.name, .slice ab nb cb, .int .i64 (f.safe : Int)] 47)).heap.size) := by rw [World.size_alloc]; have h := hqz; exact (by omega : qz < wX0.heap.size + 1)
          clear hqz
          generalize wX0.alloc (.cells #[.string f.name, .slice ab nb cb, .int .i64 (f.safe : Int)] 47) = wX1 at *
          refine hK.out _ _ (fun _ => (HSB.out _ HOB.out)) ?_
          clear hK K
          refine wpAnyT_ready (rs := [1]) (by kernel_rfl) (by simp) ?_
          refine AllReadyT.cons (o := _) rfl (fun K hK => ?_) AllReadyT.nil
          go_simp
          obtain ⟨q0, hqq⟩ : ∃ z, z = wX1.heap.size := ⟨_, rfl⟩
          rw [← hqq]
          have HEB : Hid (Below b0 wX0 (wX1.alloc (.cells #[] 47))) := HOB.out.alloc (HSZ.out _ HOB.out) _
          have HE1 : Hid ((wX1.alloc (.cells #[] 47)).ownsRow b0 47 3 (.slice (some ⟨q0, 0, none⟩) 0 0) 0 [] ∧ b0 ≤ q0 ∧ q0 < (wX1.alloc (.cells #[] 47)).heap.size) := ⟨by rw [hqq]; exact (World.ownsRow_made wX1 #[] 0 (Nat.le_refl _) (by decide) rfl).mono (HSZ.out _ HOB.out), by rw [hqq]; exact HSZ.out _ HOB.out, by rw [World.size_alloc, hqq]; omega⟩
          have HF2 : Hid (Fsrc (wX1.alloc (.cells #[] 47)) (.slice (some ⟨qz, 0, none⟩) 1 1) [(f, Value.slice ab nb cb)] ∧ q0 ≠ qz) := ⟨HF1.out.below ((Below.refl _ wX1).alloc (Nat.le_refl _) _), by have := HZL.out; omega⟩
          clear hqq
          generalize wX1.alloc (.cells #[] 47) = wX2 at *
          refine hK.out _ _ (fun _ => (HSB.out _ HEB.out)) ?_
          clear hK K
          refine wpAnyT_ready (rs := [8]) (by kernel_rfl) (by simp) ?_
          refine AllReadyT.cons (o := _) rfl (fun K hK => ?_) AllReadyT.nil
          refine wp_fs _ _ rfl b0 (.slice (some ⟨q0, 0, none⟩) 0 0) (.slice (some ⟨g, 0, none⟩) k cv) [] (ps.take k) wX2 rfl rfl HE1.out.1 (HSZ.out _ HEB.out) (HSR.out _ _ _ HEB.out HT1.out) (fcs_one (fun p hp => HX0.out.r.fo.bytes p (List.mem_of_mem_take hp))) (by have := HN.out.1; simp only [List.length_take, List.length_nil, List.length_cons]; omega) ?_
          intro v2 wX3 ho2 hg2
          have HO2 : Hid (wX3.ownsRow b0 47 3 v2 (ps.take k).length (fcs (ps.take k))) := by
            have h : wX3.ownsRow b0 47 3 v2 (ps.take k).length (fcs (ps.take k)) := by simpa using ho2
            exact h
          have hg2' : wX2.grownBy wX3 (some q0) := hg2
          have HB2 : Hid (Below b0 wX0 wX3) := HEB.out.grown hg2' (HSZ.out _ HEB.out) (fun z hz => by simp at hz; have := HE1.out.2.1; omega)
          have HF3 : Hid (Fsrc wX3 (.slice (some ⟨qz, 0, none⟩) 1 1) [(f, Value.slice ab nb cb)]) := HF2.out.1.grown hg2' (fun z hz => by cases hz; simp; exact HF2.out.2)
          obtain ⟨a2, m2, c2, rfl⟩ := slice_own ho2
          clear ho2 hg2 hg2'
          go_simp
          refine hK.out _ _ (fun _ => (HSB.out _ HB2.out)) ?_
          clear hK K
          refine wpAnyT_ready (rs := [11]) (by kernel_rfl) (by simp) ?_
          refine AllReadyT.cons (o := _) rfl (fun K hK => ?_) AllReadyT.nil
          refine wp_fs _ _ rfl b0 (.slice a2 m2 c2) (.slice (some ⟨qz, 0, none⟩) 1 1) (ps.take k) [(f, Value.slice ab nb cb)] wX3 rfl rfl HO2.out (HSZ.out _ HB2.out) HF3.out (fcs_one (w := wX0) (B := q + 1) (fun p hp => by simp at hp; subst hp; exact HX0.out.own)) (by have := HN.out.1; simp only [List.length_take, List.length_nil, List.length_cons]; omega) ?_
          intro v3 wX4 ho3 hg3
          have HO3 : Hid (wX4.ownsRow b0 47 3 v3 (ps.take k ++ [(f, Value.slice ab nb cb)]).length (fcs (ps.take k ++ [(f, Value.slice ab nb cb)]))) := ho3
          have HB4 : Hid (Below b0 wX0 wX4) := HB2.out.grown hg3 (HSZ.out _ HB2.out) (fun z hz => (HO2.out.lt z hz).1)
          obtain ⟨a3, m3, c3, rfl⟩ := slice_own ho3
          clear ho3 hg3
          go_simp
          refine hK.out _ _ (fun _ => (HSB.out _ HB4.out)) ?_
          clear hK K
          refine wpAnyT_ready (rs := [18]) (by kernel_rfl) (by simp) ?_
          refine AllReadyT.cons (o := _) rfl (fun K hK => ?_) AllReadyT.nil
          refine wp_fs _ _ rfl b0 (.slice a3 m3 c3) U (ps.take k ++ [(f, Value.slice ab nb cb)]) (ps.drop k) wX4 rfl rfl HO3.out (HSZ.out _ HB4.out) (HSR.out _ _ _ HB4.out HT2.out) (fcs_one (fun p hp => HX0.out.r.fo.bytes p (List.mem_of_mem_drop hp))) (by have := HN.out.1; simp only [List.length_append, List.length_take, List.length_drop, List.length_nil, List.length_cons]; omega) ?_
          intro v4 wX5 ho4 hg4
          have HB5 : Hid (Below b0 wX0 wX5) := HB4.out.grown hg4 (HSZ.out _ HB4.out) (fun z hz => (HO3.out.lt z hz).1)
          have HO4 : Hid (wX5.ownsRow wX0.heap.size 47 3 v4 (ps.take k ++ [(f, Value.slice ab nb cb)] ++ ps.drop k).length (fcs (ps.take k ++ [(f, Value.slice ab nb cb)] ++ ps.drop k))) := by rw [← HB0.out.1]; exact ho4
          obtain ⟨a4, m4, c4, rfl⟩ := slice_own ho4
          clear ho4 hg4
          have HB5' : Hid (Below wX0.heap.size wX0 wX5) := by rw [← HB0.out.1]; exact HB5.out
          have hc5 := (HSB.out _ HB5.out).1
          have hf5 : wX5.frozen? ⟨q, 1, none⟩ = false := (World.frozen?_of_block (HB5'.out.block q HX0.out.r.lt)).trans (HX0.out.r.free 1)
          have HFIN : Hid (RefC (wX5.setCell ⟨q, 1, none⟩ (.slice a4 m4 c4)) q { st with fs := (ps.take k ++ [(f, Value.slice ab nb cb)] ++ ps.drop k).map (·.1) } (Gx wX0 wX5 G) (.slice a4 m4 c4) (ps.take k ++ [(f, Value.slice ab nb cb)] ++ ps.drop k) ∧ Moved wX0 (wX5.setCell ⟨q, 1, none⟩ (.slice a4 m4 c4)) G (Gx wX0 wX5 G)) := by
            refine HX0.out.r.relaid (grownBy_below (row := some wX0.heap.size) HB5'.out) (Nat.le_refl _) HO4.out (fun p hp => ?_)
            simp only [List.mem_append, List.mem_cons, List.not_mem_nil, or_false] at hp
            rcases hp with (hp | hp) | hp
            · exact ⟨HX0.out.r.fo.bytes p (List.mem_of_mem_take hp), HX0.out.r.gb p (List.mem_of_mem_take hp)⟩
            · subst hp
              exact ⟨HX0.out.own, HX0.out.gb⟩
            · exact ⟨HX0.out.r.fo.bytes p (List.mem_of_mem_drop hp), HX0.out.r.gb p (List.mem_of_mem_drop hp)⟩
          have HFS : Hid ((ps.take k ++ [(f, Value.slice ab nb cb)] ++ ps.drop k).map (·.1) = Dq.lay f st.fs) := by
            have h : (ps.take k ++ [(f, Value.slice ab nb cb)] ++ ps.drop k).map (·.1) = Dq.lay f st.fs := by
              rw [HLAY.out, ← HX0.out.r.fs]
              simp [List.map_take, List.map_drop]
            exact h
          rw [HFS.out] at HFIN
          go_simp
          refine hK.out _ _ (fun _ => (HSB.out _ HB5.out)) ?_
          clear hK K
          refine' take_T (i := 19) (d := 46) (v := _) rfl rfl (by kernel_rfl) (by kernel_rfl) (by kernel_rfl) (by kernel_rfl) (by kernel_rfl) (fun _ _ _ h => h) (Or.inl ⟨by rfl, ?h19⟩) (HSB.out _ HB5.out) ?_
          case h19 => intro w hSw; go_simp; with_reducible rfl
          simp only [List.setIfInBounds_toArray, List.set_cons_zero, List.set_cons_succ]
          refine' take_T (i := 20) (d := 47) (v := _) rfl rfl (by kernel_rfl) (by kernel_rfl) (by kernel_rfl) (by kernel_rfl) (by kernel_rfl) (fun _ _ _ h => h) (Or.inl ⟨by rfl, ?h20⟩) (HSB.out _ HB5.out) ?_
          case h20 => intro w hSw; go_simp; with_reducible rfl
          simp only [List.setIfInBounds_toArray, List.set_cons_zero, List.set_cons_succ]
          refine wpAnyT_ready (rs := [21]) (by kernel_rfl) (by simp) ?_
          refine AllReadyT.cons (o := _) rfl (fun K hK => ?_) AllReadyT.nil
          go_simp
          clear hc5 hf5
          refine hK.out _ _ (fun h => absurd rfl h) ?_
          clear hK K
          refine wpAnyT_done (by kernel_rfl) ?_ _
          generalize wX5.setCell ⟨q, 1, none⟩ (.slice a4 m4 c4) = wz at *
          go_wp2
          go_end0
          exact ⟨_, _, _, rfl, HFIN.out.1, HX0.out.m.trans HFIN.out.2⟩
      · have hlt' : ¬ (k : Int) < (n : Int) := by omega
        clear hgo
        go_wp2
        go_quiet (fail)
        clear hc1 hx0
        cases av with
        | none =>
          obtain ⟨h0, hc0⟩ : n = 0 ∧ cv = 0 := by
            rcases HL.out.r.fo.own.2 with ⟨h, _⟩ | ⟨g, cap, cur, h, _⟩
            · simp only [Value.slice.injEq, true_and] at h
              exact h
            · simp at h
          subst h0 hc0
          obtain rfl : k = 0 := by omega
          go_wp2_with fail
          have HX0 : Hid (LayS w (wr.drewN nq).drew q qf st G (.slice none 0 0) ps f (.slice ab nb cb)) := (HST.out nq).below (Below.refl _ _).drew
          clear HST HL
          refine wp_region_T (fun w' => w'.cell? ⟨q, 1, none⟩ = some (.slice none 0 0) ∧ w'.cell? ⟨qf, 0, none⟩ = some (.string f.name) ∧ w'.cell? ⟨qf, 1, none⟩ = some (.slice ab nb cb) ∧ w'.cell? ⟨qf, 2, none⟩ = some (.int .i64 (f.safe : Int))) 21 (by kernel_rfl) ?_
          generalize (wr.drewN nq).drew = wX0 at *
          obtain ⟨b0, hb0⟩ : ∃ z, z = wX0.heap.size := ⟨_, rfl⟩
          have HB0 : Hid (b0 = wX0.heap.size ∧ Below b0 wX0 wX0) := ⟨hb0, Below.refl _ _⟩
          have HSB : Hid (∀ w', Below b0 wX0 w' → w'.cell? ⟨q, 1, none⟩ = some (.slice none 0 0) ∧ w'.cell? ⟨qf, 0, none⟩ = some (.string f.name) ∧ w'.cell? ⟨qf, 1, none⟩ = some (.slice ab nb cb) ∧ w'.cell? ⟨qf, 2, none⟩ = some (.int .i64 (f.safe : Int))) := fun w' hb => by
            rw [hb0] at hb
            exact ⟨Below.kept hb HX0.out.r.c1, Below.kept hb HX0.out.box.c0, Below.kept hb HX0.out.box.c1, Below.kept hb HX0.out.box.c2⟩
          have HSX : Hid (wX0.cell? ⟨q, 1, none⟩ = some (.slice none 0 0) ∧ wX0.cell? ⟨qf, 0, none⟩ = some (.string f.name) ∧ wX0.cell? ⟨qf, 1, none⟩ = some (.slice ab nb cb) ∧ wX0.cell? ⟨qf, 2, none⟩ = some (.int .i64 (f.safe : Int))) := HSB.out _ HB0.out.2
          have HSZ : Hid (∀ w', Below b0 wX0 w' → b0 ≤ w'.heap.size) := fun w' hb => by rw [hb0]; exact hb.size
          have HSR : Hid (∀ w' u qs, Below b0 wX0 w' → Fsrc wX0 u qs → Fsrc w' u qs) := fun w' u qs hb h => h.below (by rw [hb0] at hb; exact hb)
          clear hb0
          have hi9 : (0 : Int) ≤ 0 := by omega
          refine' take_T (i := 0) (d := 27) (v := _) rfl rfl (by kernel_rfl) (by kernel_rfl) (by kernel_rfl) (by kernel_rfl) (by kernel_rfl) (fun _ _ _ h => h) (Or.inl ⟨by rfl, ?h0⟩) HSX.out ?_
          case h0 => intro w hSw; go_simp; with_reducible rfl
          simp only [List.setIfInBounds_toArray, List.set_cons_zero, List.set_cons_succ]
          refine' take_T (i := 2) (d := 29) (v := _) rfl rfl (by kernel_rfl) (by kernel_rfl) (by kernel_rfl) (by kernel_rfl) (by kernel_rfl) (fun _ _ _ h => h) (Or.inl ⟨by rfl, ?h2⟩) HSX.out ?_
          case h2 => intro w hSw; go_simp; with_reducible rfl
          simp only [List.setIfInBounds_toArray, List.set_cons_zero, List.set_cons_succ]
          refine' take_T (i := 3) (d := 30) (v := _) rfl rfl (by kernel_rfl) (by kernel_rfl) (by kernel_rfl) (by kernel_rfl) (by kernel_rfl) (fun _ _ _ h => h) (Or.inl ⟨by rfl, ?h3⟩) HSX.out ?_
          case h3 => intro w hSw; go_simp; with_reducible rfl
          simp only [List.setIfInBounds_toArray, List.set_cons_zero, List.set_cons_succ]
          refine' take_T (i := 4) (d := 31) (v := _) rfl rfl (by kernel_rfl) (by kernel_rfl) (by kernel_rfl) (by kernel_rfl) (by kernel_rfl) (fun _ _ _ h => h) (Or.inl ⟨by rfl, ?h4⟩) HSX.out ?_
          case h4 => intro w hSw; go_simp; with_reducible rfl
          simp only [List.setIfInBounds_toArray, List.set_cons_zero, List.set_cons_succ]
          refine' take_T (i := 5) (d := 32) (v := _) rfl rfl (by kernel_rfl) (by kernel_rfl) (by kernel_rfl) (by kernel_rfl) (by kernel_rfl) (fun _ _ _ h => h) (Or.inl ⟨by rfl, ?h5⟩) HSX.out ?_
          case h5 => intro w hSw; obtain ⟨hs1, hs2, hs3, hs4⟩ := hSw; go_simp; with_reducible rfl
          simp only [List.setIfInBounds_toArray, List.set_cons_zero, List.set_cons_succ]
          refine' take_T (i := 6) (d := 33) (v := _) rfl rfl (by kernel_rfl) (by kernel_rfl) (by kernel_rfl) (by kernel_rfl) (by kernel_rfl) (fun _ _ _ h => h) (Or.inl ⟨by rfl, ?h6⟩) HSX.out ?_
          case h6 => intro w hSw; go_simp; with_reducible rfl
          simp only [List.setIfInBounds_toArray, List.set_cons_zero, List.set_cons_succ]
          refine' take_T (i := 7) (d := 34) (v := _) rfl rfl (by kernel_rfl) (by kernel_rfl) (by kernel_rfl) (by kernel_rfl) (by kernel_rfl) (fun _ _ _ h => h) (Or.inl ⟨by rfl, ?h7⟩) HSX.out ?_
          case h7 => intro w hSw; go_simp; with_reducible rfl
          simp only [List.setIfInBounds_toArray, List.set_cons_zero, List.set_cons_succ]
          refine' take_T (i := 9) (d := 36) (v := _) rfl rfl (by kernel_rfl) (by kernel_rfl) (by kernel_rfl) (by kernel_rfl) (by kernel_rfl) (fun _ _ _ h => h) (Or.inl ⟨by rfl, ?h9⟩) HSX.out ?_
          case h9 => intro w hSw; obtain ⟨hs1, hs2, hs3, hs4⟩ := hSw; go_simp; with_reducible rfl
          simp only [List.setIfInBounds_toArray, List.set_cons_zero, List.set_cons_succ]
          refine' take_T (i := 12) (d := 39) (v := _) rfl rfl (by kernel_rfl) (by kernel_rfl) (by kernel_rfl) (by kernel_rfl) (by kernel_rfl) (fun _ _ _ h => h) (Or.inl ⟨by rfl, ?h12⟩) HSX.out ?_
          case h12 => intro w hSw; go_simp; with_reducible rfl
          simp only [List.setIfInBounds_toArray, List.set_cons_zero, List.set_cons_succ]
          refine' take_T (i := 13) (d := 40) (v := _) rfl rfl (by kernel_rfl) (by kernel_rfl) (by kernel_rfl) (by kernel_rfl) (by kernel_rfl) (fun _ _ _ h => h) (Or.inl ⟨by rfl, ?h13⟩) HSX.out ?_
          case h13 => intro w hSw; go_simp; with_reducible rfl
          simp only [List.setIfInBounds_toArray, List.set_cons_zero, List.set_cons_succ]
          refine' take_T (i := 14) (d := 41) (v := _) rfl rfl (by kernel_rfl) (by kernel_rfl) (by kernel_rfl) (by kernel_rfl) (by kernel_rfl) (fun _ _ _ h => h) (Or.inl ⟨by rfl, ?h14⟩) HSX.out ?_
          case h14 => intro w hSw; go_simp; with_reducible rfl
          simp only [List.setIfInBounds_toArray, List.set_cons_zero, List.set_cons_succ]
          refine' take_T (i := 15) (d := 42) (v := _) rfl rfl (by kernel_rfl) (by kernel_rfl) (by kernel_rfl) (by kernel_rfl) (by kernel_rfl) (fun _ _ _ h => h) (Or.inl ⟨by rfl, ?h15⟩) HSX.out ?_
          case h15 => intro w hSw; obtain ⟨hs1, hs2, hs3, hs4⟩ := hSw; go_simp; with_reducible rfl
          simp only [List.setIfInBounds_toArray, List.set_cons_zero, List.set_cons_succ]
          refine' take_T (i := 16) (d := 43) (v := _) rfl rfl (by kernel_rfl) (by kernel_rfl) (by kernel_rfl) (by kernel_rfl) (by kernel_rfl) (fun _ _ _ h => h) (Or.inl ⟨by rfl, ?h16⟩) HSX.out ?_
          case h16 => intro w hSw; go_simp; with_reducible rfl
          simp only [List.setIfInBounds_toArray, List.set_cons_zero, List.set_cons_succ]
          refine' take_T (i := 17) (d := 44) (v := _) rfl rfl (by kernel_rfl) (by kernel_rfl) (by kernel_rfl) (by kernel_rfl) (by kernel_rfl) (fun _ _ _ h => h) (Or.inl ⟨by rfl, ?h17⟩) HSX.out ?_
          case h17 => intro w hSw; go_simp; with_reducible rfl
          simp only [List.setIfInBounds_toArray, List.set_cons_zero, List.set_cons_succ]
          have HT1 : Hid (Fsrc wX0 (.slice none 0 0) (ps.take 0)) := Or.inl ⟨rfl, rfl⟩
          have HT2 : Hid (Fsrc wX0 (.slice none 0 0) (ps.drop 0)) := Or.inl ⟨rfl, by rw [List.drop_zero]; exact List.length_eq_zero_iff.1 HN.out.1.symm⟩
          refine wpAnyT_ready (rs := [1, 10]) (by kernel_rfl) (by simp) ?_
          refine AllReadyT.cons (o := _) rfl (fun K hK => ?_) (AllReadyT.cons (o := _) rfl (fun K hK => ?_) AllReadyT.nil)
          · go_simp
            obtain ⟨q0, hqq⟩ : ∃ z, z = wX0.heap.size := ⟨_, rfl⟩
            rw [← hqq]
            have HEB : Hid (Below b0 wX0 (wX0.alloc (.cells #[] 47))) := HB0.out.2.alloc (HSZ.out _ HB0.out.2) _
            have HE1 : Hid ((wX0.alloc (.cells #[] 47)).ownsRow b0 47 3 (.slice (some ⟨q0, 0, none⟩) 0 0) 0 [] ∧ b0 ≤ q0 ∧ q0 < (wX0.alloc (.cells #[] 47)).heap.size) := ⟨by rw [hqq]; exact (World.ownsRow_made wX0 #[] 0 (Nat.le_refl _) (by decide) rfl).mono (HSZ.out _ HB0.out.2), by rw [hqq]; exact HSZ.out _ HB0.out.2, by rw [World.size_alloc, hqq]; omega⟩
            clear hqq
            generalize wX0.alloc (.cells #[] 47) = wX1 at *
            refine hK.out _ _ (fun _ => (HSB.out _ HEB.out)) ?_
            clear hK K
            refine wpAnyT_ready (rs := [8, 10]) (by kernel_rfl) (by simp) ?_
            refine AllReadyT.cons (o := _) rfl (fun K hK => ?_) (AllReadyT.cons (o := _) rfl (fun K hK => ?_) AllReadyT.nil)
            · refine wp_fs _ _ rfl b0 (.slice (some ⟨q0, 0, none⟩) 0 0) (.slice none 0 0) [] (ps.take 0) wX1 rfl rfl HE1.out.1 (HSZ.out _ HEB.out) (HSR.out _ _ _ HEB.out HT1.out) (fcs_one (fun p hp => HX0.out.r.fo.bytes p (List.mem_of_mem_take hp))) (by have := HN.out.1; simp only [List.length_take, List.length_nil, List.length_cons]; omega) ?_
              intro v2 wX2 ho2 hg2
              have HO2 : Hid (wX2.ownsRow b0 47 3 v2 (ps.take 0).length (fcs (ps.take 0))) := by
                have h : wX2.ownsRow b0 47 3 v2 (ps.take 0).length (fcs (ps.take 0)) := by simpa using ho2
                exact h
              have hg2' : wX1.grownBy wX2 (some q0) := hg2
              have HB2 : Hid (Below b0 wX0 wX2) := HEB.out.grown hg2' (HSZ.out _ HEB.out) (fun z hz => by simp at hz; have := HE1.out.2.1; omega)
              obtain ⟨a2, m2, c2, rfl⟩ := slice_own ho2
              clear ho2 hg2 hg2'
              go_simp
              refine hK.out _ _ (fun _ => (HSB.out _ HB2.out)) ?_
              clear hK K
              refine wpAnyT_ready (rs := [10]) (by kernel_rfl) (by simp) ?_
              refine AllReadyT.cons (o := _) rfl (fun K hK => ?_) AllReadyT.nil
              go_simp
              obtain ⟨qz, hqz⟩ : ∃ z, z = wX2.heap.size := ⟨_, rfl⟩
              rw [← hqz]
              have HOB : Hid (Below b0 wX0 (wX2.alloc (.cells #[.string f.name, .slice ab nb cb, .int .i64 (f.safe : Int)] 47))) := HB2.out.alloc (HSZ.out _ HB2.out) _
              have HF1 : Hid (Fsrc (wX2.alloc (.cells #[.string f.name, .slice ab nb cb, .int .i64 (f.safe : Int)] 47)) (.slice (some ⟨qz, 0, none⟩) 1 1) [(f, Value.slice ab nb cb)]) := by rw [hqz]; exact Fsrc.one wX2 (f, .slice ab nb cb) _
              have HO2X : Hid ((wX2.alloc (.cells #[.string f.name, .slice ab nb cb, .int .i64 (f.safe : Int)] 47)).ownsRow b0 47 3 (.slice a2 m2 c2) (ps.take 0).length (fcs (ps.take 0))) := HO2.out.alloc _
              clear hqz
              generalize wX2.alloc (.cells #[.string f.name, .slice ab nb cb, .int .i64 (f.safe : Int)] 47) = wX3 at *
              refine hK.out _ _ (fun _ => (HSB.out _ HOB.out)) ?_
              clear hK K
              refine wpAnyT_ready (rs := [11]) (by kernel_rfl) (by simp) ?_
              refine AllReadyT.cons (o := _) rfl (fun K hK => ?_) AllReadyT.nil
              refine wp_fs _ _ rfl b0 (.slice a2 m2 c2) (.slice (some ⟨qz, 0, none⟩) 1 1) (ps.take 0) [(f, Value.slice ab nb cb)] wX3 rfl rfl HO2X.out (HSZ.out _ HOB.out) HF1.out (fcs_one (w := wX0) (B := q + 1) (fun p hp => by simp at hp; subst hp; exact HX0.out.own)) (by have := HN.out.1; simp only [List.length_take, List.length_nil, List.length_cons]; omega) ?_
              intro v3 wX4 ho3 hg3
              have HO3 : Hid (wX4.ownsRow b0 47 3 v3 (ps.take 0 ++ [(f, Value.slice ab nb cb)]).length (fcs (ps.take 0 ++ [(f, Value.slice ab nb cb)]))) := ho3
              have HB4 : Hid (Below b0 wX0 wX4) := HOB.out.grown hg3 (HSZ.out _ HOB.out) (fun z hz => (HO2X.out.lt z hz).1)
              obtain ⟨a3, m3, c3, rfl⟩ := slice_own ho3
              clear ho3 hg3
              go_simp
              refine hK.out _ _ (fun _ => (HSB.out _ HB4.out)) ?_
              clear hK K
              refine wpAnyT_ready (rs := [18]) (by kernel_rfl) (by simp) ?_
              refine AllReadyT.cons (o := _) rfl (fun K hK => ?_) AllReadyT.nil
              refine wp_fs _ _ rfl b0 (.slice a3 m3 c3) (.slice none 0 0) (ps.take 0 ++ [(f, Value.slice ab nb cb)]) (ps.drop 0) wX4 rfl rfl HO3.out (HSZ.out _ HB4.out) (HSR.out _ _ _ HB4.out HT2.out) (fcs_one (fun p hp => HX0.out.r.fo.bytes p (List.mem_of_mem_drop hp))) (by have := HN.out.1; simp only [List.length_append, List.length_take, List.length_drop, List.length_nil, List.length_cons]; omega) ?_
              intro v4 wX5 ho4 hg4
              have HB5 : Hid (Below b0 wX0 wX5) := HB4.out.grown hg4 (HSZ.out _ HB4.out) (fun z hz => (HO3.out.lt z hz).1)
              have HO4 : Hid (wX5.ownsRow wX0.heap.size 47 3 v4 (ps.take 0 ++ [(f, Value.slice ab nb cb)] ++ ps.drop 0).length (fcs (ps.take 0 ++ [(f, Value.slice ab nb cb)] ++ ps.drop 0))) := by rw [← HB0.out.1]; exact ho4
              obtain ⟨a4, m4, c4, rfl⟩ := slice_own ho4
              clear ho4 hg4
              have HB5' : Hid (Below wX0.heap.size wX0 wX5) := by rw [← HB0.out.1]; exact HB5.out
              have hc5 := (HSB.out _ HB5.out).1
              have hf5 : wX5.frozen? ⟨q, 1, none⟩ = false := (World.frozen?_of_block (HB5'.out.block q HX0.out.r.lt)).trans (HX0.out.r.free 1)
              have HFIN : Hid (RefC (wX5.setCell ⟨q, 1, none⟩ (.slice a4 m4 c4)) q { st with fs := (ps.take 0 ++ [(f, Value.slice ab nb cb)] ++ ps.drop 0).map (·.1) } (Gx wX0 wX5 G) (.slice a4 m4 c4) (ps.take 0 ++ [(f, Value.slice ab nb cb)] ++ ps.drop 0) ∧ Moved wX0 (wX5.setCell ⟨q, 1, none⟩ (.slice a4 m4 c4)) G (Gx wX0 wX5 G)) := by
                refine HX0.out.r.relaid (grownBy_below (row := some wX0.heap.size) HB5'.out) (Nat.le_refl _) HO4.out (fun p hp => ?_)
                simp only [List.mem_append, List.mem_cons, List.not_mem_nil, or_false] at hp
                rcases hp with (hp | hp) | hp
                · exact ⟨HX0.out.r.fo.bytes p (List.mem_of_mem_take hp), HX0.out.r.gb p (List.mem_of_mem_take hp)⟩
                · subst hp
                  exact ⟨HX0.out.own, HX0.out.gb⟩
                · exact ⟨HX0.out.r.fo.bytes p (List.mem_of_mem_drop hp), HX0.out.r.gb p (List.mem_of_mem_drop hp)⟩
              have HFS : Hid ((ps.take 0 ++ [(f, Value.slice ab nb cb)] ++ ps.drop 0).map (·.1) = Dq.lay f st.fs) := by
                have h : (ps.take 0 ++ [(f, Value.slice ab nb cb)] ++ ps.drop 0).map (·.1) = Dq.lay f st.fs := by
                  rw [HLAY.out, ← HX0.out.r.fs]
                  simp [List.map_take, List.map_drop]
                exact h
              rw [HFS.out] at HFIN
              go_simp
              refine hK.out _ _ (fun _ => (HSB.out _ HB5.out)) ?_
              clear hK K
              refine' take_T (i := 19) (d := 46) (v := _) rfl rfl (by kernel_rfl) (by kernel_rfl) (by kernel_rfl) (by kernel_rfl) (by kernel_rfl) (fun _ _ _ h => h) (Or.inl ⟨by rfl, ?h19⟩) (HSB.out _ HB5.out) ?_
              case h19 => intro w hSw; go_simp; with_reducible rfl
              simp only [List.setIfInBounds_toArray, List.set_cons_zero, List.set_cons_succ]
              refine' take_T (i := 20) (d := 47) (v := _) rfl rfl (by kernel_rfl) (by kernel_rfl) (by kernel_rfl) (by kernel_rfl) (by kernel_rfl) (fun _ _ _ h => h) (Or.inl ⟨by rfl, ?h20⟩) (HSB.out _ HB5.out) ?_
              case h20 => intro w hSw; go_simp; with_reducible rfl
              simp only [List.setIfInBounds_toArray, List.set_cons_zero, List.set_cons_succ]
              refine wpAnyT_ready (rs := [21]) (by kernel_rfl) (by simp) ?_
              refine AllReadyT.cons (o := _) rfl (fun K hK => ?_) AllReadyT.nil
              go_simp
              clear hc5 hf5
              refine hK.out _ _ (fun h => absurd rfl h) ?_
              clear hK K
              refine wpAnyT_done (by kernel_rfl) ?_ _
              generalize wX5.setCell ⟨q, 1, none⟩ (.slice a4 m4 c4) = wz at *
              go_wp2
              go_end0
              exact ⟨_, _, _, rfl, HFIN.out.1, HX0.out.m.trans HFIN.out.2⟩
            · go_simp
              obtain ⟨qz, hqz⟩ : ∃ z, z = wX1.heap.size := ⟨_, rfl⟩
              rw [← hqz]
              have HOB : Hid (Below b0 wX0 (wX1.alloc (.cells #[.string f.name, .slice ab nb cb, .int .i64 (f.safe : Int)] 47))) := HEB.out.alloc (HSZ.out _ HEB.out) _
              have HF1 : Hid (Fsrc (wX1.alloc (.cells #[.string f.name, .slice ab nb cb, .int .i64 (f.safe : Int)] 47)) (.slice (some ⟨qz, 0, none⟩) 1 1) [(f, Value.slice ab nb cb)]) := by rw [hqz]; exact Fsrc.one wX1 (f, .slice ab nb cb) _
              have HEX : Hid ((wX1.alloc (.cells #[.string f.name, .slice ab nb cb, .int .i64 (f.safe : Int)] 47)).ownsRow b0 47 3 (.slice (some ⟨q0, 0, none⟩) 0 0) 0 [] ∧ q0 ≠ qz) := ⟨HE1.out.1.alloc _, by have := HE1.out.2.2; omega⟩
              clear hqz
              generalize wX1.alloc (.cells #[.string f.name, .slice ab nb cb, .int .i64 (f.safe : Int)] 47) = wX2 at *
              refine hK.out _ _ (fun _ => (HSB.out _ HOB.out)) ?_
              clear hK K
              refine wpAnyT_ready (rs := [8]) (by kernel_rfl) (by simp) ?_
              refine AllReadyT.cons (o := _) rfl (fun K hK => ?_) AllReadyT.nil
              refine wp_fs _ _ rfl b0 (.slice (some ⟨q0, 0, none⟩) 0 0) (.slice none 0 0) [] (ps.take 0) wX2 rfl rfl HEX.out.1 (HSZ.out _ HOB.out) (HSR.out _ _ _ HOB.out HT1.out) (fcs_one (fun p hp => HX0.out.r.fo.bytes p (List.mem_of_mem_take hp))) (by have := HN.out.1; simp only [List.length_take, List.length_nil, List.length_cons]; omega) ?_
              intro v2 wX3 ho2 hg2
              have HO2 : Hid (wX3.ownsRow b0 47 3 v2 (ps.take 0).length (fcs (ps.take 0))) := by
                have h : wX3.ownsRow b0 47 3 v2 (ps.take 0).length (fcs (ps.take 0)) := by simpa using ho2
                exact h
              have hg2' : wX2.grownBy wX3 (some q0) := hg2
              have HB2 : Hid (Below b0 wX0 wX3) := HOB.out.grown hg2' (HSZ.out _ HOB.out) (fun z hz => by simp at hz; have := HE1.out.2.1; omega)
              have HF2 : Hid (Fsrc wX3 (.slice (some ⟨qz, 0, none⟩) 1 1) [(f, Value.slice ab nb cb)]) := HF1.out.grown hg2' (fun z hz => by cases hz; simp; exact HEX.out.2)
              obtain ⟨a2, m2, c2, rfl⟩ := slice_own ho2
              clear ho2 hg2 hg2'
              go_simp
              refine hK.out _ _ (fun _ => (HSB.out _ HB2.out)) ?_
              clear hK K
              refine wpAnyT_ready (rs := [11]) (by kernel_rfl) (by simp) ?_
              refine AllReadyT.cons (o := _) rfl (fun K hK => ?_) AllReadyT.nil
              refine wp_fs _ _ rfl b0 (.slice a2 m2 c2) (.slice (some ⟨qz, 0, none⟩) 1 1) (ps.take 0) [(f, Value.slice ab nb cb)] wX3 rfl rfl HO2.out (HSZ.out _ HB2.out) HF2.out (fcs_one (w := wX0) (B := q + 1) (fun p hp => by simp at hp; subst hp; exact HX0.out.own)) (by have := HN.out.1; simp only [List.length_take, List.length_nil, List.length_cons]; omega) ?_
              intro v3 wX4 ho3 hg3
              have HO3 : Hid (wX4.ownsRow b0 47 3 v3 (ps.take 0 ++ [(f, Value.slice ab nb cb)]).length (fcs (ps.take 0 ++ [(f, Value.slice ab nb cb)]))) := ho3
              have HB4 : Hid (Below b0 wX0 wX4) := HB2.out.grown hg3 (HSZ.out _ HB2.out) (fun z hz => (HO2.out.lt z hz).1)
              obtain ⟨a3, m3, c3, rfl⟩ := slice_own ho3
              clear ho3 hg3
              go_simp
              refine hK.out _ _ (fun _ => (HSB.out _ HB4.out)) ?_
              clear hK K
              refine wpAnyT_ready (rs := [18]) (by kernel_rfl) (by simp) ?_
              refine AllReadyT.cons (o := _) rfl (fun K hK => ?_) AllReadyT.nil
              refine wp_fs _ _ rfl b0 (.slice a3 m3 c3) (.slice none 0 0) (ps.take 0 ++ [(f, Value.slice ab nb cb)]) (ps.drop 0) wX4 rfl rfl HO3.out (HSZ.out _ HB4.out) (HSR.out _ _ _ HB4.out HT2.out) (fcs_one (fun p hp => HX0.out.r.fo.bytes p (List.mem_of_mem_drop hp))) (by have := HN.out.1; simp only [List.length_append, List.length_take, List.length_drop, List.length_nil, List.length_cons]; omega) ?_
              intro v4 wX5 ho4 hg4
              have HB5 : Hid (Below b0 wX0 wX5) := HB4.out.grown hg4 (HSZ.out _ HB4.out) (fun z hz => (HO3.out.lt z hz).1)
              have HO4 : Hid (wX5.ownsRow wX0.heap.size 47 3 v4 (ps.take 0 ++ [(f, Value.slice ab nb cb)] ++ ps.drop 0).length (fcs (ps.take 0 ++ [(f, Value.slice ab nb cb)] ++ ps.drop 0))) := by rw [← HB0.out.1]; exact ho4
              obtain ⟨a4, m4, c4, rfl⟩ := slice_own ho4
              clear ho4 hg4
              have HB5' : Hid (Below wX0.heap.size wX0 wX5) := by rw [← HB0.out.1]; exact HB5.out
              have hc5 := (HSB.out _ HB5.out).1
              have hf5 : wX5.frozen? ⟨q, 1, none⟩ = false := (World.frozen?_of_block (HB5'.out.block q HX0.out.r.lt)).trans (HX0.out.r.free 1)
              have HFIN : Hid (RefC (wX5.setCell ⟨q, 1, none⟩ (.slice a4 m4 c4)) q { st with fs := (ps.take 0 ++ [(f, Value.slice ab nb cb)] ++ ps.drop 0).map (·.1) } (Gx wX0 wX5 G) (.slice a4 m4 c4) (ps.take 0 ++ [(f, Value.slice ab nb cb)] ++ ps.drop 0) ∧ Moved wX0 (wX5.setCell ⟨q, 1, none⟩ (.slice a4 m4 c4)) G (Gx wX0 wX5 G)) := by
                refine HX0.out.r.relaid (grownBy_below (row := some wX0.heap.size) HB5'.out) (Nat.le_refl _) HO4.out (fun p hp => ?_)
                simp only [List.mem_append, List.mem_cons, List.not_mem_nil, or_false] at hp
                rcases hp with (hp | hp) | hp
                · exact ⟨HX0.out.r.fo.bytes p (List.mem_of_mem_take hp), HX0.out.r.gb p (List.mem_of_mem_take hp)⟩
                · subst hp
                  exact ⟨HX0.out.own, HX0.out.gb⟩
                · exact ⟨HX0.out.r.fo.bytes p (List.mem_of_mem_drop hp), HX0.out.r.gb p (List.mem_of_mem_drop hp)⟩
              have HFS : Hid ((ps.take 0 ++ [(f, Value.slice ab nb cb)] ++ ps.drop 0).map (·.1) = Dq.lay f st.fs) := by
                have h : (ps.take 0 ++ [(f, Value.slice ab nb cb)] ++ ps.drop 0).map (·.1) = Dq.lay f st.fs := by
                  rw [HLAY.out, ← HX0.out.r.fs]
                  simp [List.map_take, List.map_drop]
                exact h
              rw [HFS.out] at HFIN
              go_simp
              refine hK.out _ _ (fun _ => (HSB.out _ HB5.out)) ?_
              clear hK K
              refine' take_T (i := 19) (d := 46) (v := _) rfl rfl (by kernel_rfl) (by kernel_rfl) (by kernel_rfl) (by kernel_rfl) (by kernel_rfl) (fun _ _ _ h => h) (Or.inl ⟨by rfl, ?h19⟩) (HSB.out _ HB5.out) ?_
              case h19 => intro w hSw; go_simp; with_reducible rfl
              simp only [List.setIfInBounds_toArray, List.set_cons_zero, List.set_cons_succ]
              refine' take_T (i := 20) (d := 47) (v := _) rfl rfl (by kernel_rfl) (by kernel_rfl) (by kernel_rfl) (by kernel_rfl) (by kernel_rfl) (fun _ _ _ h => h) (Or.inl ⟨by rfl, ?h20⟩) (HSB.out _ HB5.out) ?_
              case h20 => intro w hSw; go_simp; with_reducible rfl
              simp only [List.setIfInBounds_toArray, List.set_cons_zero, List.set_cons_succ]
              refine wpAnyT_ready (rs := [21]) (by kernel_rfl) (by simp) ?_
              refine AllReadyT.cons (o := _) rfl (fun K hK => ?_) AllReadyT.nil
              go_simp
              clear hc5 hf5
              refine hK.out _ _ (fun h => absurd rfl h) ?_
              clear hK K
              refine wpAnyT_done (by kernel_rfl) ?_ _
              generalize wX5.setCell ⟨q, 1, none⟩ (.slice a4 m4 c4) = wz at *
              go_wp2
              go_end0
              exact ⟨_, _, _, rfl, HFIN.out.1, HX0.out.m.trans HFIN.out.2⟩
          · go_simp
            obtain ⟨qz, hqz⟩ : ∃ z, z = wX0.heap.size := ⟨_, rfl⟩
            rw [← hqz]
            have HOB : Hid (Below b0 wX0 (wX0.alloc (.cells #[.string f.name, .slice ab nb cb, .int .i64 (f.safe : Int)] 47))) := HB0.out.2.alloc (HSZ.out _ HB0.out.2) _
            have HF1 : Hid (Fsrc (wX0.alloc (.cells #[.string f.name, .slice ab nb cb, .int .i64 (f.safe : Int)] 47)) (.slice (some ⟨qz, 0, none⟩) 1 1) [(f, Value.slice ab nb cb)]) := by rw [hqz]; exact Fsrc.one wX0 (f, .slice ab nb cb) _
            have HZL : Hid (qz < (wX0.alloc (.cells #[.string f.name, .slice ab nb cb, .int .i64 (f.safe : Int)] 47)).heap.size) := by rw [World.size_alloc]; have h := hqz; exact (by omega : qz < wX0.heap.size + 1)
            clear hqz
            generalize wX0.alloc (.cells #[.string f.name, .slice ab nb cb, .int .i64 (f.safe : Int)] 47) = wX1 at *
            refine hK.out _ _ (fun _ => (HSB.out _ HOB.out)) ?_
            clear hK K
            refine wpAnyT_ready (rs := [1]) (by kernel_rfl) (by simp) ?_
            refine AllReadyT.cons (o := _) rfl (fun K hK => ?_) AllReadyT.nil
            go_simp
            obtain ⟨q0, hqq⟩ : ∃ z, z = wX1.heap.size := ⟨_, rfl⟩
            rw [← hqq]
            have HEB : Hid (Below b0 wX0 (wX1.alloc (.cells #[] 47))) := HOB.out.alloc (HSZ.out _ HOB.out) _
            have HE1 : Hid ((wX1.alloc (.cells #[] 47)).ownsRow b0 47 3 (.slice (some ⟨q0, 0, none⟩) 0 0) 0 [] ∧ b0 ≤ q0 ∧ q0 < (wX1.alloc (.cells #[] 47)).heap.size) := ⟨by rw [hqq]; exact (World.ownsRow_made wX1 #[] 0 (Nat.le_refl _) (by decide) rfl).mono (HSZ.out _ HOB.out), by rw [hqq]; exact HSZ.out _ HOB.out, by rw [World.size_alloc, hqq]; omega⟩
            have HF2 : Hid (Fsrc (wX1.alloc (.cells #[] 47)) (.slice (some ⟨qz, 0, none⟩) 1 1) [(f, Value.slice ab nb cb)] ∧ q0 ≠ qz) := ⟨HF1.out.below ((Below.refl _ wX1).alloc (Nat.le_refl _) _), by have := HZL.out; omega⟩
            clear hqq
            generalize wX1.alloc (.cells #[] 47) = wX2 at *
            refine hK.out _ _ (fun _ => (HSB.out _ HEB.out)) ?_
            clear hK K
            refine wpAnyT_ready (rs := [8]) (by kernel_rfl) (by simp) ?_
            refine AllReadyT.cons (o := _) rfl (fun K hK => ?_) AllReadyT.nil
            refine wp_fs _ _ rfl b0 (.slice (some ⟨q0, 0, none⟩) 0 0) (.slice none 0 0) [] (ps.take 0) wX2 rfl rfl HE1.out.1 (HSZ.out _ HEB.out) (HSR.out _ _ _ HEB.out HT1.out) (fcs_one (fun p hp => HX0.out.r.fo.bytes p (List.mem_of_mem_take hp))) (by have := HN.out.1; simp only [List.length_take, List.length_nil, List.length_cons]; omega) ?_
            intro v2 wX3 ho2 hg2
            have HO2 : Hid (wX3.ownsRow b0 47 3 v2 (ps.take 0).length (fcs (ps.take 0))) := by
              have h : wX3.ownsRow b0 47 3 v2 (ps.take 0).length (fcs (ps.take 0)) := by simpa using ho2
              exact h
            have hg2' : wX2.grownBy wX3 (some q0) := hg2
            have HB2 : Hid (Below b0 wX0 wX3) := HEB.out.grown hg2' (HSZ.out _ HEB.out) (fun z hz => by simp at hz; have := HE1.out.2.1; omega)
            have HF3 : Hid (Fsrc wX3 (.slice (some ⟨qz, 0, none⟩) 1 1) [(f, Value.slice ab nb cb)]) := HF2.out.1.grown hg2' (fun z hz => by cases hz; simp; exact HF2.out.2)
            obtain ⟨a2, m2, c2, rfl⟩ := slice_own ho2
            clear ho2 hg2 hg2'
            go_simp
            refine hK.out _ _ (fun _ => (HSB.out _ HB2.out)) ?_
            clear hK K
            refine wpAnyT_ready (rs := [11]) (by kernel_rfl) (by simp) ?_
            refine AllReadyT.cons (o := _) rfl (fun K hK => ?_) AllReadyT.nil
            refine wp_fs _ _ rfl b0 (.slice a2 m2 c2) (.slice (some ⟨qz, 0, none⟩) 1 1) (ps.take 0) [(f, Value.slice ab nb cb)] wX3 rfl rfl HO2.out (HSZ.out _ HB2.out) HF3.out (fcs_one (w := wX0) (B := q + 1) (fun p hp => by simp at hp; subst hp; exact HX0.out.own)) (by have := HN.out.1; simp only [List.length_take, List.length_nil, List.length_cons]; omega) ?_
            intro v3 wX4 ho3 hg3
            have HO3 : Hid (wX4.ownsRow b0 47 3 v3 (ps.take 0 ++ [(f, Value.slice ab nb cb)]).length (fcs (ps.take 0 ++ [(f, Value.slice ab nb cb)]))) := ho3
            have HB4 : Hid (Below b0 wX0 wX4) := HB2.out.grown hg3 (HSZ.out _ HB2.out) (fun z hz => (HO2.out.lt z hz).1)
            obtain ⟨a3, m3, c3, rfl⟩ := slice_own ho3
            clear ho3 hg3
            go_simp
            refine hK.out _ _ (fun _ => (HSB.out _ HB4.out)) ?_
            clear hK K
            refine wpAnyT_ready (rs := [18]) (by kernel_rfl) (by simp) ?_
            refine AllReadyT.cons (o := _) rfl (fun K hK => ?_) AllReadyT.nil
            refine wp_fs _ _ rfl b0 (.slice a3 m3 c3) (.slice none 0 0) (ps.take 0 ++ [(f, Value.slice ab nb cb)]) (ps.drop 0) wX4 rfl rfl HO3.out (HSZ.out _ HB4.out) (HSR.out _ _ _ HB4.out HT2.out) (fcs_one (fun p hp => HX0.out.r.fo.bytes p (List.mem_of_mem_drop hp))) (by have := HN.out.1; simp only [List.length_append, List.length_take, List.length_drop, List.length_nil, List.length_cons]; omega) ?_
            intro v4 wX5 ho4 hg4
            have HB5 : Hid (Below b0 wX0 wX5) := HB4.out.grown hg4 (HSZ.out _ HB4.out) (fun z hz => (HO3.out.lt z hz).1)
            have HO4 : Hid (wX5.ownsRow wX0.heap.size 47 3 v4 (ps.take 0 ++ [(f, Value.slice ab nb cb)] ++ ps.drop 0).length (fcs (ps.take 0 ++ [(f, Value.slice ab nb cb)] ++ ps.drop 0))) := by rw [← HB0.out.1]; exact ho4
            obtain ⟨a4, m4, c4, rfl⟩ := slice_own ho4
            clear ho4 hg4
            have HB5' : Hid (Below wX0.heap.size wX0 wX5) := by rw [← HB0.out.1]; exact HB5.out
            have hc5 := (HSB.out _ HB5.out).1
            have hf5 : wX5.frozen? ⟨q, 1, none⟩ = false := (World.frozen?_of_block (HB5'.out.block q HX0.out.r.lt)).trans (HX0.out.r.free 1)
            have HFIN : Hid (RefC (wX5.setCell ⟨q, 1, none⟩ (.slice a4 m4 c4)) q { st with fs := (ps.take 0 ++ [(f, Value.slice ab nb cb)] ++ ps.drop 0).map (·.1) } (Gx wX0 wX5 G) (.slice a4 m4 c4) (ps.take 0 ++ [(f, Value.slice ab nb cb)] ++ ps.drop 0) ∧ Moved wX0 (wX5.setCell ⟨q, 1, none⟩ (.slice a4 m4 c4)) G (Gx wX0 wX5 G)) := by
              refine HX0.out.r.relaid (grownBy_below (row := some wX0.heap.size) HB5'.out) (Nat.le_refl _) HO4.out (fun p hp => ?_)
              simp only [List.mem_append, List.mem_cons, List.not_mem_nil, or_false] at hp
              rcases hp with (hp | hp) | hp
              · exact ⟨HX0.out.r.fo.bytes p (List.mem_of_mem_take hp), HX0.out.r.gb p (List.mem_of_mem_take hp)⟩
              · subst hp
                exact ⟨HX0.out.own, HX0.out.gb⟩
              · exact ⟨HX0.out.r.fo.bytes p (List.mem_of_mem_drop hp), HX0.out.r.gb p (List.mem_of_mem_drop hp)⟩
            have HFS : Hid ((ps.take 0 ++ [(f, Value.slice ab nb cb)] ++ ps.drop 0).map (·.1) = Dq.lay f st.fs) := by
              have h : (ps.take 0 ++ [(f, Value.slice ab nb cb)] ++ ps.drop 0).map (·.1) = Dq.lay f st.fs := by
                rw [HLAY.out, ← HX0.out.r.fs]
                simp [List.map_take, List.map_drop]
              exact h
            rw [HFS.out] at HFIN
            go_simp
            refine hK.out _ _ (fun _ => (HSB.out _ HB5.out)) ?_
            clear hK K
            refine' take_T (i := 19) (d := 46) (v := _) rfl rfl (by kernel_rfl) (by kernel_rfl) (by kernel_rfl) (by kernel_rfl) (by kernel_rfl) (fun _ _ _ h => h) (Or.inl ⟨by rfl, ?h19⟩) (HSB.out _ HB5.out) ?_
            case h19 => intro w hSw; go_simp; with_reducible rfl
            simp only [List.setIfInBounds_toArray, List.set_cons_zero, List.set_cons_succ]
            refine' take_T (i := 20) (d := 47) (v := _) rfl rfl (by kernel_rfl) (by kernel_rfl) (by kernel_rfl) (by kernel_rfl) (by kernel_rfl) (fun _ _ _ h => h) (Or.inl ⟨by rfl, ?h20⟩) (HSB.out _ HB5.out) ?_
            case h20 => intro w hSw; go_simp; with_reducible rfl
            simp only [List.setIfInBounds_toArray, List.set_cons_zero, List.set_cons_succ]
            refine wpAnyT_ready (rs := [21]) (by kernel_rfl) (by simp) ?_
            refine AllReadyT.cons (o := _) rfl (fun K hK => ?_) AllReadyT.nil
            go_simp
            clear hc5 hf5
            refine hK.out _ _ (fun h => absurd rfl h) ?_
            clear hK K
            refine wpAnyT_done (by kernel_rfl) ?_ _
            generalize wX5.setCell ⟨q, 1, none⟩ (.slice a4 m4 c4) = wz at *
            go_wp2
            go_end0
            exact ⟨_, _, _, rfl, HFIN.out.1, HX0.out.m.trans HFIN.out.2⟩
        | some ad =>
          obtain ⟨g, hg⟩ : ∃ g, ad = ⟨g, 0, none⟩ := by
            rcases HL.out.r.fo.own.2 with ⟨h, _⟩ | ⟨g, cap, cur, h, _⟩
            · cases h
            · simp only [Value.slice.injEq, Option.some.injEq] at h
              exact ⟨g, h.1⟩
          subst hg
          go_wp2_with fail
          have HX0 : Hid (LayS w (wr.drewN nq).drew q qf st G (.slice (some ⟨g, 0, none⟩) n cv) ps f (.slice ab nb cb)) := (HST.out nq).below (Below.refl _ _).drew
          clear HST HL
          refine wp_region_T (fun w' => w'.cell? ⟨q, 1, none⟩ = some (.slice (some ⟨g, 0, none⟩) n cv) ∧ w'.cell? ⟨qf, 0, none⟩ = some (.string f.name) ∧ w'.cell? ⟨qf, 1, none⟩ = some (.slice ab nb cb) ∧ w'.cell? ⟨qf, 2, none⟩ = some (.int .i64 (f.safe : Int))) 21 (by kernel_rfl) ?_
          generalize (wr.drewN nq).drew = wX0 at *
          obtain ⟨b0, hb0⟩ : ∃ z, z = wX0.heap.size := ⟨_, rfl⟩
          have HB0 : Hid (b0 = wX0.heap.size ∧ Below b0 wX0 wX0) := ⟨hb0, Below.refl _ _⟩
          have HSB : Hid (∀ w', Below b0 wX0 w' → w'.cell? ⟨q, 1, none⟩ = some (.slice (some ⟨g, 0, none⟩) n cv) ∧ w'.cell? ⟨qf, 0, none⟩ = some (.string f.name) ∧ w'.cell? ⟨qf, 1, none⟩ = some (.slice ab nb cb) ∧ w'.cell? ⟨qf, 2, none⟩ = some (.int .i64 (f.safe : Int))) := fun w' hb => by
            rw [hb0] at hb
            exact ⟨Below.kept hb HX0.out.r.c1, Below.kept hb HX0.out.box.c0, Below.kept hb HX0.out.box.c1, Below.kept hb HX0.out.box.c2⟩
          have HSX : Hid (wX0.cell? ⟨q, 1, none⟩ = some (.slice (some ⟨g, 0, none⟩) n cv) ∧ wX0.cell? ⟨qf, 0, none⟩ = some (.string f.name) ∧ wX0.cell? ⟨qf, 1, none⟩ = some (.slice ab nb cb) ∧ wX0.cell? ⟨qf, 2, none⟩ = some (.int .i64 (f.safe : Int))) := HSB.out _ HB0.out.2
          have HSZ : Hid (∀ w', Below b0 wX0 w' → b0 ≤ w'.heap.size) := fun w' hb => by rw [hb0]; exact hb.size
          have HSR : Hid (∀ w' u qs, Below b0 wX0 w' → Fsrc wX0 u qs → Fsrc w' u qs) := fun w' u qs hb h => h.below (by rw [hb0] at hb; exact hb)
          clear hb0
          have hi1 : (k : Int) ≤ (n : Int) := by omega
          have hi2 : (k : Int) ≤ (cv : Int) := by omega
          have hi6 : (n : Int) ≤ (cv : Int) := by omega
          refine' take_T (i := 0) (d := 27) (v := _) rfl rfl (by kernel_rfl) (by kernel_rfl) (by kernel_rfl) (by kernel_rfl) (by kernel_rfl) (fun _ _ _ h => h) (Or.inl ⟨by rfl, ?h0⟩) HSX.out ?_
          case h0 => intro w hSw; go_simp; with_reducible rfl
          simp only [List.setIfInBounds_toArray, List.set_cons_zero, List.set_cons_succ]
          refine' take_T (i := 2) (d := 29) (v := _) rfl rfl (by kernel_rfl) (by kernel_rfl) (by kernel_rfl) (by kernel_rfl) (by kernel_rfl) (fun _ _ _ h => h) (Or.inl ⟨by rfl, ?h2⟩) HSX.out ?_
          case h2 => intro w hSw; go_simp; with_reducible rfl
          simp only [List.setIfInBounds_toArray, List.set_cons_zero, List.set_cons_succ]
          refine' take_T (i := 3) (d := 30) (v := _) rfl rfl (by kernel_rfl) (by kernel_rfl) (by kernel_rfl) (by kernel_rfl) (by kernel_rfl) (fun _ _ _ h => h) (Or.inl ⟨by rfl, ?h3⟩) HSX.out ?_
          case h3 => intro w hSw; go_simp; with_reducible rfl
          simp only [List.setIfInBounds_toArray, List.set_cons_zero, List.set_cons_succ]
          refine' take_T (i := 4) (d := 31) (v := _) rfl rfl (by kernel_rfl) (by kernel_rfl) (by kernel_rfl) (by kernel_rfl) (by kernel_rfl) (fun _ _ _ h => h) (Or.inl ⟨by rfl, ?h4⟩) HSX.out ?_
          case h4 => intro w hSw; go_simp; with_reducible rfl
          simp only [List.setIfInBounds_toArray, List.set_cons_zero, List.set_cons_succ]
          refine' take_T (i := 5) (d := 32) (v := _) rfl rfl (by kernel_rfl) (by kernel_rfl) (by kernel_rfl) (by kernel_rfl) (by kernel_rfl) (fun _ _ _ h => h) (Or.inl ⟨by rfl, ?h5⟩) HSX.out ?_
          case h5 => intro w hSw; obtain ⟨hs1, hs2, hs3, hs4⟩ := hSw; go_simp; with_reducible rfl
          simp only [List.setIfInBounds_toArray, List.set_cons_zero, List.set_cons_succ]
          refine' take_T (i := 6) (d := 33) (v := _) rfl rfl (by kernel_rfl) (by kernel_rfl) (by kernel_rfl) (by kernel_rfl) (by kernel_rfl) (fun _ _ _ h => h) (Or.inl ⟨by rfl, ?h6⟩) HSX.out ?_
          case h6 => intro w hSw; go_simp; with_reducible rfl
          simp only [List.setIfInBounds_toArray, List.set_cons_zero, List.set_cons_succ]
          refine' take_T (i := 7) (d := 34) (v := _) rfl rfl (by kernel_rfl) (by kernel_rfl) (by kernel_rfl) (by kernel_rfl) (by kernel_rfl) (fun _ _ _ h => h) (Or.inl ⟨by rfl, ?h7⟩) HSX.out ?_
          case h7 => intro w hSw; go_simp; with_reducible rfl
          simp only [List.setIfInBounds_toArray, List.set_cons_zero, List.set_cons_succ]
          refine' take_T (i := 9) (d := 36) (v := _) rfl rfl (by kernel_rfl) (by kernel_rfl) (by kernel_rfl) (by kernel_rfl) (by kernel_rfl) (fun _ _ _ h => h) (Or.inl ⟨by rfl, ?h9⟩) HSX.out ?_
          case h9 => intro w hSw; obtain ⟨hs1, hs2, hs3, hs4⟩ := hSw; go_simp; with_reducible rfl
          simp only [List.setIfInBounds_toArray, List.set_cons_zero, List.set_cons_succ]
          refine' take_T (i := 12) (d := 39) (v := _) rfl rfl (by kernel_rfl) (by kernel_rfl) (by kernel_rfl) (by kernel_rfl) (by kernel_rfl) (fun _ _ _ h => h) (Or.inl ⟨by rfl, ?h12⟩) HSX.out ?_
          case h12 => intro w hSw; go_simp; with_reducible rfl
          simp only [List.setIfInBounds_toArray, List.set_cons_zero, List.set_cons_succ]
          refine' take_T (i := 13) (d := 40) (v := _) rfl rfl (by kernel_rfl) (by kernel_rfl) (by kernel_rfl) (by kernel_rfl) (by kernel_rfl) (fun _ _ _ h => h) (Or.inl ⟨by rfl, ?h13⟩) HSX.out ?_
          case h13 => intro w hSw; go_simp; with_reducible rfl
          simp only [List.setIfInBounds_toArray, List.set_cons_zero, List.set_cons_succ]
          refine' take_T (i := 14) (d := 41) (v := _) rfl rfl (by kernel_rfl) (by kernel_rfl) (by kernel_rfl) (by kernel_rfl) (by kernel_rfl) (fun _ _ _ h => h) (Or.inl ⟨by rfl, ?h14⟩) HSX.out ?_
          case h14 => intro w hSw; go_simp; with_reducible rfl
          simp only [List.setIfInBounds_toArray, List.set_cons_zero, List.set_cons_succ]
          refine' take_T (i := 15) (d := 42) (v := _) rfl rfl (by kernel_rfl) (by kernel_rfl) (by kernel_rfl) (by kernel_rfl) (by kernel_rfl) (fun _ _ _ h => h) (Or.inl ⟨by rfl, ?h15⟩) HSX.out ?_
          case h15 => intro w hSw; obtain ⟨hs1, hs2, hs3, hs4⟩ := hSw; go_simp; with_reducible rfl
          simp only [List.setIfInBounds_toArray, List.set_cons_zero, List.set_cons_succ]
          refine' take_T (i := 16) (d := 43) (v := _) rfl rfl (by kernel_rfl) (by kernel_rfl) (by kernel_rfl) (by kernel_rfl) (by kernel_rfl) (fun _ _ _ h => h) (Or.inl ⟨by rfl, ?h16⟩) HSX.out ?_
          case h16 => intro w hSw; go_simp; with_reducible rfl
          simp only [List.setIfInBounds_toArray, List.set_cons_zero, List.set_cons_succ]
          refine' take_T (i := 17) (d := 44) (v := _) rfl rfl (by kernel_rfl) (by kernel_rfl) (by kernel_rfl) (by kernel_rfl) (by kernel_rfl) (fun _ _ _ h => h) (Or.inl ⟨by rfl, ?h17⟩) HSX.out ?_
          case h17 => intro w hSw; go_simp; with_reducible rfl
          simp only [List.setIfInBounds_toArray, List.set_cons_zero, List.set_cons_succ]
          have HT1 : Hid (Fsrc wX0 (.slice (some ⟨g, 0, none⟩) k cv) (ps.take k)) := by
            have h := HX0.out.r.fo
            rw [HN.out.1] at h
            have h := h.part 0 k cv (by rw [← HN.out.1]; omega)
            have h2 : Fsrc wX0 (.slice (some ⟨g, 0, none⟩) k cv) (ps.take k) := by simpa using h
            exact h2
          have HT2 : Hid (Fsrc wX0 (.slice (if cv = k then some ⟨g, 0, none⟩ else some ⟨g, k * 3, none⟩) (n - k) (cv - k)) (ps.drop k)) := by
            by_cases hc : cv = k
            · rw [if_pos hc]
              have e1 : n - k = 0 := by omega
              have e2 : ps.drop k = [] := List.drop_eq_nil_iff.2 (by rw [← HN.out.1]; omega)
              rw [e1, e2]
              exact Fsrc.none7 _ _ _ _
            · rw [if_neg hc]
              have h := HX0.out.r.fo
              rw [HN.out.1] at h
              have h := h.part k (ps.length - k) (cv - k) (by have := HN.out.1; omega)
              rw [List.take_of_length_le (by rw [List.length_drop]; exact Nat.le_refl _)] at h
              rw [HN.out.1]
              exact h
          obtain ⟨U, hU⟩ : ∃ u : Value, u = .slice (if cv = k then some ⟨g, 0, none⟩ else some ⟨g, k * 3, none⟩) (n - k) (cv - k) := ⟨_, rfl⟩
          rw [← hU] at HT2 ⊢
          clear hU
          refine wpAnyT_ready (rs := [1, 10]) (by kernel_rfl) (by simp) ?_
          refine AllReadyT.cons (o := _) rfl (fun K hK => ?_) (AllReadyT.cons (o := _) rfl (fun K hK => ?_) AllReadyT.nil)
          · go_simp
            obtain ⟨q0, hqq⟩ : ∃ z, z = wX0.heap.size := ⟨_, rfl⟩
            rw [← hqq]
            have HEB : Hid (Below b0 wX0 (wX0.alloc (.cells #[] 47))) := HB0.out.2.alloc (HSZ.out _ HB0.out.2) _
            have HE1 : Hid ((wX0.alloc (.cells #[] 47)).ownsRow b0 47 3 (.slice (some ⟨q0, 0, none⟩) 0 0) 0 [] ∧ b0 ≤ q0 ∧ q0 < (wX0.alloc (.cells #[] 47)).heap.size) := ⟨by rw [hqq]; exact (World.ownsRow_made wX0 #[] 0 (Nat.le_refl _) (by decide) rfl).mono (HSZ.out _ HB0.out.2), by rw [hqq]; exact HSZ.out _ HB0.out.2, by rw [World.size_alloc, hqq]; omega⟩
            clear hqq
            generalize wX0.alloc (.cells #[] 47) = wX1 at *
            refine hK.out _ _ (fun _ => (HSB.out _ HEB.out)) ?_
            clear hK K
            refine wpAnyT_ready (rs := [8, 10]) (by kernel_rfl) (by simp) ?_
            refine AllReadyT.cons (o := _) rfl (fun K hK => ?_) (AllReadyT.cons (o := _) rfl (fun K hK => ?_) AllReadyT.nil)
            · refine wp_fs _ _ rfl b0 (.slice (some ⟨q0, 0, none⟩) 0 0) (.slice (some ⟨g, 0, none⟩) k cv) [] (ps.take k) wX1 rfl rfl HE1.out.1 (HSZ.out _ HEB.out) (HSR.out _ _ _ HEB.out HT1.out) (fcs_one (fun p hp => HX0.out.r.fo.bytes p (List.mem_of_mem_take hp))) (by have := HN.out.1; simp only [List.length_take, List.length_nil, List.length_cons]; omega) ?_
              intro v2 wX2 ho2 hg2
              have HO2 : Hid (wX2.ownsRow b0 47 3 v2 (ps.take k).length (fcs (ps.take k))) := by
                have h : wX2.ownsRow b0 47 3 v2 (ps.take k).length (fcs (ps.take k)) := by simpa using ho2
                exact h
              have hg2' : wX1.grownBy wX2 (some q0) := hg2
              have HB2 : Hid (Below b0 wX0 wX2) := HEB.out.grown hg2' (HSZ.out _ HEB.out) (fun z hz => by simp at hz; have := HE1.out.2.1; omega)
              obtain ⟨a2, m2, c2, rfl⟩ := slice_own ho2
              clear ho2 hg2 hg2'
              go_simp
              refine hK.out _ _ (fun _ => (HSB.out _ HB2.out)) ?_
              clear hK K
              refine wpAnyT_ready (rs := [10]) (by kernel_rfl) (by simp) ?_
              refine AllReadyT.cons (o := _) rfl (fun K hK => ?_) AllReadyT.nil
              go_simp
              obtain ⟨qz, hqz⟩ : ∃ z, z = wX2.heap.size := ⟨_, rfl⟩
              rw [← hqz]
              have HOB : Hid (Below b0 wX0 (wX2.alloc (.cells #[.string f.name, .slice ab nb cb, .int .i64 (f.safe : Int)] 47))) := HB2.out.alloc (HSZ.out _ HB2.out) _
              have HF1 : Hid (Fsrc (wX2.alloc (.cells #[.string f.name, .slice ab nb cb, .int .i64 (f.safe : Int)] 47)) (.slice (some ⟨qz, 0, none⟩) 1 1) [(f, Value.slice ab nb cb)]) := by rw [hqz]; exact Fsrc.one wX2 (f, .slice ab nb cb) _
              have HO2X : Hid ((wX2.alloc (.cells #[.string f.name, .slice ab nb cb, .int .i64 (f.safe : Int)] 47)).ownsRow b0 47 3 (.slice a2 m2 c2) (ps.take k).length (fcs (ps.take k))) := HO2.out.alloc _
              clear hqz
              generalize wX2.alloc (.cells #[.string f.name, .slice ab nb cb, .int .i64 (f.safe : Int)] 47) = wX3 at *
              refine hK.out _ _ (fun _ => (HSB.out _ HOB.out)) ?_
              clear hK K
              refine wpAnyT_ready (rs := [11]) (by kernel_rfl) (by simp) ?_
              refine AllReadyT.cons (o := _) rfl (fun K hK => ?_) AllReadyT.nil
              refine wp_fs _ _ rfl b0 (.slice a2 m2 c2) (.slice (some ⟨qz, 0, none⟩) 1 1) (ps.take k) [(f, Value.slice ab nb cb)] wX3 rfl rfl HO2X.out (HSZ.out _ HOB.out) HF1.out (fcs_one (w := wX0) (B := q + 1) (fun p hp => by simp at hp; subst hp; exact HX0.out.own)) (by have := HN.out.1; simp only [List.length_take, List.length_nil, List.length_cons]; omega) ?_
              intro v3 wX4 ho3 hg3
              have HO3 : Hid (wX4.ownsRow b0 47 3 v3 (ps.take k ++ [(f, Value.slice ab nb cb)]).length (fcs (ps.take k ++ [(f, Value.slice ab nb cb)]))) := ho3
              have HB4 : Hid (Below b0 wX0 wX4) := HOB.out.grown hg3 (HSZ.out _ HOB.out) (fun z hz => (HO2X.out.lt z hz).1)
              obtain ⟨a3, m3, c3, rfl⟩ := slice_own ho3
              clear ho3 hg3
              go_simp
              refine hK.out _ _ (fun _ => (HSB.out _ HB4.out)) ?_
              clear hK K
              refine wpAnyT_ready (rs := [18]) (by kernel_rfl) (by simp) ?_
              refine AllReadyT.cons (o := _) rfl (fun K hK => ?_) AllReadyT.nil
              refine wp_fs _ _ rfl b0 (.slice a3 m3 c3) U (ps.take k ++ [(f, Value.slice ab nb cb)]) (ps.drop k) wX4 rfl rfl HO3.out (HSZ.out _ HB4.out) (HSR.out _ _ _ HB4.out HT2.out) (fcs_one (fun p hp => HX0.out.r.fo.bytes p (List.mem_of_mem_drop hp))) (by have := HN.out.1; simp only [List.length_append, List.length_take, List.length_drop, List.length_nil, List.length_cons]; omega) ?_
              intro v4 wX5 ho4 hg4
              have HB5 : Hid (Below b0 wX0 wX5) := HB4.out.grown hg4 (HSZ.out _ HB4.out) (fun z hz => (HO3.out.lt z hz).1)
              have HO4 : Hid (wX5.ownsRow wX0.heap.size 47 3 v4 (ps.take k ++ [(f, Value.slice ab nb cb)] ++ ps.drop k).length (fcs (ps.take k ++ [(f, Value.slice ab nb cb)] ++ ps.drop k))) := by rw [← HB0.out.1]; exact ho4
              obtain ⟨a4, m4, c4, rfl⟩ := slice_own ho4
              clear ho4 hg4
              have HB5' : Hid (Below wX0.heap.size wX0 wX5) := by rw [← HB0.out.1]; exact HB5.out
              have hc5 := (HSB.out _ HB5.out).1
              have hf5 : wX5.frozen? ⟨q, 1, none⟩ = false := (World.frozen?_of_block (HB5'.out.block q HX0.out.r.lt)).trans (HX0.out.r.free 1)
              have HFIN : Hid (RefC (wX5.setCell ⟨q, 1, none⟩ (.slice a4 m4 c4)) q { st with fs := (ps.take k ++ [(f, Value.slice ab nb cb)] ++ ps.drop k).map (·.1) } (Gx wX0 wX5 G) (.slice a4 m4 c4) (ps.take k ++ [(f, Value.slice ab nb cb)] ++ ps.drop k) ∧ Moved wX0 (wX5.setCell ⟨q, 1, none⟩ (.slice a4 m4 c4)) G (Gx wX0 wX5 G)) := by
                refine HX0.out.r.relaid (grownBy_below (row := some wX0.heap.size) HB5'.out) (Nat.le_refl _) HO4.out (fun p hp => ?_)
                simp only [List.mem_append, List.mem_cons, List.not_mem_nil, or_false] at hp
                rcases hp with (hp | hp) | hp
                · exact ⟨HX0.out.r.fo.bytes p (List.mem_of_mem_take hp), HX0.out.r.gb p (List.mem_of_mem_take hp)⟩
                · subst hp
                  exact ⟨HX0.out.own, HX0.out.gb⟩
                · exact ⟨HX0.out.r.fo.bytes p (List.mem_of_mem_drop hp), HX0.out.r.gb p (List.mem_of_mem_drop hp)⟩
              have HFS : Hid ((ps.take k ++ [(f, Value.slice ab nb cb)] ++ ps.drop k).map (·.1) = Dq.lay f st.fs) := by
                have h : (ps.take k ++ [(f, Value.slice ab nb cb)] ++ ps.drop k).map (·.1) = Dq.lay f st.fs := by
                  rw [HLAY.out, ← HX0.out.r.fs]
                  simp [List.map_take, List.map_drop]
                exact h
              rw [HFS.out] at HFIN
              go_simp
              refine hK.out _ _ (fun _ => (HSB.out _ HB5.out)) ?_
              clear hK K
              refine' take_T (i := 19) (d := 46) (v := _) rfl rfl (by kernel_rfl) (by kernel_rfl) (by kernel_rfl) (by kernel_rfl) (by kernel_rfl) (fun _ _ _ h => h) (Or.inl ⟨by rfl, ?h19⟩) (HSB.out _ HB5.out) ?_
              case h19 => intro w hSw; go_simp; with_reducible rfl
              simp only [List.setIfInBounds_toArray, List.set_cons_zero, List.set_cons_succ]
              refine' take_T (i := 20) (d := 47) (v := _) rfl rfl (by kernel_rfl) (by kernel_rfl) (by kernel_rfl) (by kernel_rfl) (by kernel_rfl) (fun _ _ _ h => h) (Or.inl ⟨by rfl, ?h20⟩) (HSB.out _ HB5.out) ?_
              case h20 => intro w hSw; go_simp; with_reducible rfl
              simp only [List.setIfInBounds_toArray, List.set_cons_zero, List.set_cons_succ]
              refine wpAnyT_ready (rs := [21]) (by kernel_rfl) (by simp) ?_
              refine AllReadyT.cons (o := _) rfl (fun K hK => ?_) AllReadyT.nil
              go_simp
              clear hc5 hf5
              refine hK.out _ _ (fun h => absurd rfl h) ?_
              clear hK K
              refine wpAnyT_done (by kernel_rfl) ?_ _
              generalize wX5.setCell ⟨q, 1, none⟩ (.slice a4 m4 c4) = wz at *
              go_wp2
              go_end0
              exact ⟨_, _, _, rfl, HFIN.out.1, HX0.out.m.trans HFIN.out.2⟩
            · go_simp
              obtain ⟨qz, hqz⟩ : ∃ z, z = wX1.heap.size := ⟨_, rfl⟩
              rw [← hqz]
              have HOB : Hid (Below b0 wX0 (wX1.alloc (.cells #[.string f.name, .slice ab nb cb, .int .i64 (f.safe : Int)] 47))) := HEB.out.alloc (HSZ.out _ HEB.out) _
              have HF1 : Hid (Fsrc (wX1.alloc (.cells #[.string f.name, .slice ab nb cb, .int .i64 (f.safe : Int)] 47)) (.slice (some ⟨qz, 0, none⟩) 1 1) [(f, Value.slice ab nb cb)]) := by rw [hqz]; exact Fsrc.one wX1 (f, .slice ab nb cb) _
              have HEX : Hid ((wX1.alloc (.cells #[.string f.name, .slice ab nb cb, .int .i64 (f.safe : Int)] 47)).ownsRow b0 47 3 (.slice (some ⟨q0, 0, none⟩) 0 0) 0 [] ∧ q0 ≠ qz) := ⟨HE1.out.1.alloc _, by have := HE1.out.2.2; omega⟩
              clear hqz
              generalize wX1.alloc (.cells #[.string f.name, .slice ab nb cb, .int .i64 (f.safe : Int)] 47) = wX2 at *
              refine hK.out _ _ (fun _ => (HSB.out _ HOB.out)) ?_
              clear hK K
              refine wpAnyT_ready (rs := [8]) (by kernel_rfl) (by simp) ?_
              refine AllReadyT.cons (o := _) rfl (fun K hK => ?_) AllReadyT.nil
              refine wp_fs _ _ rfl b0 (.slice (some ⟨q0, 0, none⟩) 0 0) (.slice (some ⟨g, 0, none⟩) k cv) [] (ps.take k) wX2 rfl rfl HEX.out.1 (HSZ.out _ HOB.out) (HSR.out _ _ _ HOB.out HT1.out) (fcs_one (fun p hp => HX0.out.r.fo.bytes p (List.mem_of_mem_take hp))) (by have := HN.out.1; simp only [List.length_take, List.length_nil, List.length_cons]; omega) ?_
              intro v2 wX3 ho2 hg2
              have HO2 : Hid (wX3.ownsRow b0 47 3 v2 (ps.take k).length (fcs (ps.take k))) := by
                have h : wX3.ownsRow b0 47 3 v2 (ps.take k).length (fcs (ps.take k)) := by simpa using ho2
                exact h
              have hg2' : wX2.grownBy wX3 (some q0) := hg2
              have HB2 : Hid (Below b0 wX0 wX3) := HOB.out.grown hg2' (HSZ.out _ HOB.out) (fun z hz => by simp at hz; have := HE1.out.2.1; omega)
              have HF2 : Hid (Fsrc wX3 (.slice (some ⟨qz, 0, none⟩) 1 1) [(f, Value.slice ab nb cb)]) := HF1.out.grown hg2' (fun z hz => by cases hz; simp; exact HEX.out.2)
              obtain ⟨a2, m2, c2, rfl⟩ := slice_own ho2
              clear ho2 hg2 hg2'
              go_simp
              refine hK.out _ _ (fun _ => (HSB.out _ HB2.out)) ?_
              clear hK K
              refine wpAnyT_ready (rs := [11]) (by kernel_rfl) (by simp) ?_
              refine AllReadyT.cons (o := _) rfl (fun K hK => ?_) AllReadyT.nil
              refine wp_fs _ _ rfl b0 (.slice a2 m2 c2) (.slice (some ⟨qz, 0, none⟩) 1 1) (ps.take k) [(f, Value.slice ab nb cb)] wX3 rfl rfl HO2.out (HSZ.out _ HB2.out) HF2.out (fcs_one (w := wX0) (B := q + 1) (fun p hp => by simp at hp; subst hp; exact HX0.out.own)) (by have := HN.out.1; simp only [List.length_take, List.length_nil, List.length_cons]; omega) ?_
              intro v3 wX4 ho3 hg3
              have HO3 : Hid (wX4.ownsRow b0 47 3 v3 (ps.take k ++ [(f, Value.slice ab nb cb)]).length (fcs (ps.take k ++ [(f, Value.slice ab nb cb)]))) := ho3
              have HB4 : Hid (Below b0 wX0 wX4) := HB2.out.grown hg3 (HSZ.out _ HB2.out) (fun z hz => (HO2.out.lt z hz).1)
              obtain ⟨a3, m3, c3, rfl⟩ := slice_own ho3
              clear ho3 hg3
              go_simp
              refine hK.out _ _ (fun _ => (HSB.out _ HB4.out)) ?_
              clear hK K
              refine wpAnyT_ready (rs := [18]) (by kernel_rfl) (by simp) ?_
              refine AllReadyT.cons (o := _) rfl (fun K hK => ?_) AllReadyT.nil
              refine wp_fs _ _ rfl b0 (.slice a3 m3 c3) U (ps.take k ++ [(f, Value.slice ab nb cb)]) (ps.drop k) wX4 rfl rfl HO3.out (HSZ.out _ HB4.out) (HSR.out _ _ _ HB4.out HT2.out) (fcs_one (fun p hp => HX0.out.r.fo.bytes p (List.mem_of_mem_drop hp))) (by have := HN.out.1; simp only [List.length_append, List.length_take, List.length_drop, List.length_nil, List.length_cons]; omega) ?_
              intro v4 wX5 ho4 hg4
              have HB5 : Hid (Below b0 wX0 wX5) := HB4.out.grown hg4 (HSZ.out _ HB4.out) (fun z hz => (HO3.out.lt z hz).1)
              have HO4 : Hid (wX5.ownsRow wX0.heap.size 47 3 v4 (ps.take k ++ [(f, Value.slice ab nb cb)] ++ ps.drop k).length (fcs (ps.take k ++ [(f, Value.slice ab nb cb)] ++ ps.drop k))) := by rw [← HB0.out.1]; exact ho4
              obtain ⟨a4, m4, c4, rfl⟩ := slice_own ho4
              clear ho4 hg4
              have HB5' : Hid (Below wX0.heap.size wX0 wX5) := by rw [← HB0.out.1]; exact HB5.out
              have hc5 := (HSB.out _ HB5.out).1
              have hf5 : wX5.frozen? ⟨q, 1, none⟩ = false := (World.frozen?_of_block (HB5'.out.block q HX0.out.r.lt)).trans (HX0.out.r.free 1)
              have HFIN : Hid (RefC (wX5.setCell ⟨q, 1, none⟩ (.slice a4 m4 c4)) q { st with fs := (ps.take k ++ [(f, Value.slice ab nb cb)] ++ ps.drop k).map (·.1) } (Gx wX0 wX5 G) (.slice a4 m4 c4) (ps.take k ++ [(f, Value.slice ab nb cb)] ++ ps.drop k) ∧ Moved wX0 (wX5.setCell ⟨q, 1, none⟩ (.slice a4 m4 c4)) G (Gx wX0 wX5 G)) := by
                refine HX0.out.r.relaid (grownBy_below (row := some wX0.heap.size) HB5'.out) (Nat.le_refl _) HO4.out (fun p hp => ?_)
                simp only [List.mem_append, List.mem_cons, List.not_mem_nil, or_false] at hp
                rcases hp with (hp | hp) | hp
                · exact ⟨HX0.out.r.fo.bytes p (List.mem_of_mem_take hp), HX0.out.r.gb p (List.mem_of_mem_take hp)⟩
                · subst hp
                  exact ⟨HX0.out.own, HX0.out.gb⟩
                · exact ⟨HX0.out.r.fo.bytes p (List.mem_of_mem_drop hp), HX0.out.r.gb p (List.mem_of_mem_drop hp)⟩
              have HFS : Hid ((ps.take k ++ [(f, Value.slice ab nb cb)] ++ ps.drop k).map (·.1) = Dq.lay f st.fs) := by
                have h : (ps.take k ++ [(f, Value.slice ab nb cb)] ++ ps.drop k).map (·.1) = Dq.lay f st.fs := by
                  rw [HLAY.out, ← HX0.out.r.fs]
                  simp [List.map_take, List.map_drop]
                exact h
              rw [HFS.out] at HFIN
              go_simp
              refine hK.out _ _ (fun _ => (HSB.out _ HB5.out)) ?_
              clear hK K
              refine' take_T (i := 19) (d := 46) (v := _) rfl rfl (by kernel_rfl) (by kernel_rfl) (by kernel_rfl) (by kernel_rfl) (by kernel_rfl) (fun _ _ _ h => h) (Or.inl ⟨by rfl, ?h19⟩) (HSB.out _ HB5.out) ?_
              case h19 => intro w hSw; go_simp; with_reducible rfl
              simp only [List.setIfInBounds_toArray, List.set_cons_zero, List.set_cons_succ]
              refine' take_T (i := 20) (d := 47) (v := _) rfl rfl (by kernel_rfl) (by kernel_rfl) (by kernel_rfl) (by kernel_rfl) (by kernel_rfl) (fun _ _ _ h => h) (Or.inl ⟨by rfl, ?h20⟩) (HSB.out _ HB5.out) ?_
              case h20 => intro w hSw; go_simp; with_reducible rfl
              simp only [List.setIfInBounds_toArray, List.set_cons_zero, List.set_cons_succ]
              refine wpAnyT_ready (rs := [21]) (by kernel_rfl) (by simp) ?_
              refine AllReadyT.cons (o := _) rfl (fun K hK => ?_) AllReadyT.nil
              go_simp
              clear hc5 hf5
              refine hK.out _ _ (fun h => absurd rfl h) ?_
              clear hK K
              refine wpAnyT_done (by kernel_rfl) ?_ _
              generalize wX5.setCell ⟨q, 1, none⟩ (.slice a4 m4 c4) = wz at *
              go_wp2
              go_end0
              exact ⟨_, _, _, rfl, HFIN.out.1, HX0.out.m.trans HFIN.out.2⟩
          · go_simp
            obtain ⟨qz, hqz⟩ : ∃ z, z = wX0.heap.size := ⟨_, rfl⟩
            rw [← hqz]
            have HOB : Hid (Below b0 wX0 (wX0.alloc (.cells #[.string f.name, .slice ab nb cb, .int .i64 (f.safe : Int)] 47))) := HB0.out.2.alloc (HSZ.out _ HB0.out.2) _
            have HF1 : Hid (Fsrc (wX0.alloc (.cells #[.string f.name, .slice ab nb cb, .int .i64 (f.safe : Int)] 47)) (.slice (some ⟨qz, 0, none⟩) 1 1) [(f, Value.slice ab nb cb)]) := by rw [hqz]; exact Fsrc.one wX0 (f, .slice ab nb cb) _
            have HZL : Hid (qz < (wX0.alloc (.cells #[.string f.name, .slice ab nb cb, .int .i64 (f.safe : Int)] 47)).heap.size) := by rw [World.size_alloc]; have h := hqz; exact (by omega : qz < wX0.heap.size + 1)
            clear hqz
            generalize wX0.alloc (.cells #[.string f.name, .slice ab nb cb, .int .i64 (f.safe : Int)] 47) = wX1 at *
            refine hK.out _ _ (fun _ => (HSB.out _ HOB.out)) ?_
            clear hK K
            refine wpAnyT_ready (rs := [1]) (by kernel_rfl) (by simp) ?_
            refine AllReadyT.cons (o := _) rfl (fun K hK => ?_) AllReadyT.nil
            go_simp
            obtain ⟨q0, hqq⟩ : ∃ z, z = wX1.heap.size := ⟨_, rfl⟩
            rw [← hqq]
            have HEB : Hid (Below b0 wX0 (wX1.alloc (.cells #[] 47))) := HOB.out.alloc (HSZ.out _ HOB.out) _
            have HE1 : Hid ((wX1.alloc (.cells #[] 47)).ownsRow b0 47 3 (.slice (some ⟨q0, 0, none⟩) 0 0) 0 [] ∧ b0 ≤ q0 ∧ q0 < (wX1.alloc (.cells #[] 47)).heap.size) := ⟨by rw [hqq]; exact (World.ownsRow_made wX1 #[] 0 (Nat.le_refl _) (by decide) rfl).mono (HSZ.out _ HOB.out), by rw [hqq]; exact HSZ.out _ HOB.out, by rw [World.size_alloc, hqq]; omega⟩
            have HF2 : Hid (Fsrc (wX1.alloc (.cells #[] 47)) (.slice (some ⟨qz, 0, none⟩) 1 1) [(f, Value.slice ab nb cb)] ∧ q0 ≠ qz) := ⟨HF1.out.below ((Below.refl _ wX1).alloc (Nat.le_refl _) _), by have := HZL.out; omega⟩
            clear hqq
            generalize wX1.alloc (.cells #[] 47) = wX2 at *
            refine hK.out _ _ (fun _ => (HSB.out _ HEB.out)) ?_
            clear hK K
            refine wpAnyT_ready (rs := [8]) (by kernel_rfl) (by simp) ?_
            refine AllReadyT.cons (o := _) rfl (fun K hK => ?_) AllReadyT.nil
            refine wp_fs _ _ rfl b0 (.slice (some ⟨q0, 0, none⟩) 0 0) (.slice (some ⟨g, 0, none⟩) k cv) [] (ps.take k) wX2 rfl rfl HE1.out.1 (HSZ.out _ HEB.out) (HSR.out _ _ _ HEB.out HT1.out) (fcs_one (fun p hp => HX0.out.r.fo.bytes p (List.mem_of_mem_take hp))) (by have := HN.out.1; simp only [List.length_take, List.length_nil, List.length_cons]; omega) ?_
            intro v2 wX3 ho2 hg2
            have HO2 : Hid (wX3.ownsRow b0 47 3 v2 (ps.take k).length (fcs (ps.take k))) := by
              have h : wX3.ownsRow b0 47 3 v2 (ps.take k).length (fcs (ps.take k)) := by simpa using ho2
              exact h
            have hg2' : wX2.grownBy wX3 (some q0) := hg2
            have HB2 : Hid (Below b0 wX0 wX3) := HEB.out.grown hg2' (HSZ.out _ HEB.out) (fun z hz => by simp at hz; have := HE1.out.2.1; omega)
            have HF3 : Hid (Fsrc wX3 (.slice (some ⟨qz, 0, none⟩) 1 1) [(f, Value.slice ab nb cb)]) := HF2.out.1.grown hg2' (fun z hz => by cases hz; simp; exact HF2.out.2)
            obtain ⟨a2, m2, c2, rfl⟩ := slice_own ho2
            clear ho2 hg2 hg2'
            go_simp
            refine hK.out _ _ (fun _ => (HSB.out _ HB2.out)) ?_
            clear hK K
            refine wpAnyT_ready (rs := [11]) (by kernel_rfl) (by simp) ?_
            refine AllReadyT.cons (o := _) rfl (fun K hK => ?_) AllReadyT.nil
            refine wp_fs _ _ rfl b0 (.slice a2 m2 c2) (.slice (some ⟨qz, 0, none⟩) 1 1) (ps.take k) [(f, Value.slice ab nb cb)] wX3 rfl rfl HO2.out (HSZ.out _ HB2.out) HF3.out (fcs_one (w := wX0) (B := q + 1) (fun p hp => by simp at hp; subst hp; exact HX0.out.own)) (by have := HN.out.1; simp only [List.length_take, List.length_nil, List.length_cons]; omega) ?_
            intro v3 wX4 ho3 hg3
            have HO3 : Hid (wX4.ownsRow b0 47 3 v3 (ps.take k ++ [(f, Value.slice ab nb cb)]).length (fcs (ps.take k ++ [(f, Value.slice ab nb cb)]))) := ho3
            have HB4 : Hid (Below b0 wX0 wX4) := HB2.out.grown hg3 (HSZ.out _ HB2.out) (fun z hz => (HO2.out.lt z hz).1)
            obtain ⟨a3, m3, c3, rfl⟩ := slice_own ho3
            clear ho3 hg3
            go_simp
            refine hK.out _ _ (fun _ => (HSB.out _ HB4.out)) ?_
            clear hK K
            refine wpAnyT_ready (rs := [18]) (by kernel_rfl) (by simp) ?_
            refine AllReadyT.cons (o := _) rfl (fun K hK => ?_) AllReadyT.nil
            refine wp_fs _ _ rfl b0 (.slice a3 m3 c3) U (ps.take k ++ [(f, Value.slice ab nb cb)]) (ps.drop k) wX4 rfl rfl HO3.out (HSZ.out _ HB4.out) (HSR.out _ _ _ HB4.out HT2.out) (fcs_one (fun p hp => HX0.out.r.fo.bytes p (List.mem_of_mem_drop hp))) (by have := HN.out.1; simp only [List.length_append, List.length_take, List.length_drop, List.length_nil, List.length_cons]; omega) ?_
            intro v4 wX5 ho4 hg4
            have HB5 : Hid (Below b0 wX0 wX5) := HB4.out.grown hg4 (HSZ.out _ HB4.out) (fun z hz => (HO3.out.lt z hz).1)
            have HO4 : Hid (wX5.ownsRow wX0.heap.size 47 3 v4 (ps.take k ++ [(f, Value.slice ab nb cb)] ++ ps.drop k).length (fcs (ps.take k ++ [(f, Value.slice ab nb cb)] ++ ps.drop k))) := by rw [← HB0.out.1]; exact ho4
            obtain ⟨a4, m4, c4, rfl⟩ := slice_own ho4
            clear ho4 hg4
            have HB5' : Hid (Below wX0.heap.size wX0 wX5) := by rw [← HB0.out.1]; exact HB5.out
            have hc5 := (HSB.out _ HB5.out).1
            have hf5 : wX5.frozen? ⟨q, 1, none⟩ = false := (World.frozen?_of_block (HB5'.out.block q HX0.out.r.lt)).trans (HX0.out.r.free 1)
            have HFIN : Hid (RefC (wX5.setCell ⟨q, 1, none⟩ (.slice a4 m4 c4)) q { st with fs := (ps.take k ++ [(f, Value.slice ab nb cb)] ++ ps.drop k).map (·.1) } (Gx wX0 wX5 G) (.slice a4 m4 c4) (ps.take k ++ [(f, Value.slice ab nb cb)] ++ ps.drop k) ∧ Moved wX0 (wX5.setCell ⟨q, 1, none⟩ (.slice a4 m4 c4)) G (Gx wX0 wX5 G)) := by
              refine HX0.out.r.relaid (grownBy_below (row := some wX0.heap.size) HB5'.out) (Nat.le_refl _) HO4.out (fun p hp => ?_)
              simp only [List.mem_append, List.mem_cons, List.not_mem_nil, or_false] at hp
              rcases hp with (hp | hp) | hp
              · exact ⟨HX0.out.r.fo.bytes p (List.mem_of_mem_take hp), HX0.out.r.gb p (List.mem_of_mem_take hp)⟩
              · subst hp
                exact ⟨HX0.out.own, HX0.out.gb⟩
              · exact ⟨HX0.out.r.fo.bytes p (List.mem_of_mem_drop hp), HX0.out.r.gb p (List.mem_of_mem_drop hp)⟩
            have HFS : Hid ((ps.take k ++ [(f, Value.slice ab nb cb)] ++ ps.drop k).map (·.1) = Dq.lay f st.fs) := by
              have h : (ps.take k ++ [(f, Value.slice ab nb cb)] ++ ps.drop k).map (·.1) = Dq.lay f st.fs := by
                rw [HLAY.out, ← HX0.out.r.fs]
                simp [List.map_take, List.map_drop]
              exact h
            rw [HFS.out] at HFIN
            go_simp
            refine hK.out _ _ (fun _ => (HSB.out _ HB5.out)) ?_
            clear hK K
            refine' take_T (i := 19) (d := 46) (v := _) rfl rfl (by kernel_rfl) (by kernel_rfl) (by kernel_rfl) (by kernel_rfl) (by kernel_rfl) (fun _ _ _ h => h) (Or.inl ⟨by rfl, ?h19⟩) (HSB.out _ HB5.out) ?_
            case h19 => intro w hSw; go_simp; with_reducible rfl
            simp only [List.setIfInBounds_toArray, List.set_cons_zero, List.set_cons_succ]
            refine' take_T (i := 20) (d := 47) (v := _) rfl rfl (by kernel_rfl) (by kernel_rfl) (by kernel_rfl) (by kernel_rfl) (by kernel_rfl) (fun _ _ _ h => h) (Or.inl ⟨by rfl, ?h20⟩) (HSB.out _ HB5.out) ?_
            case h20 => intro w hSw; go_simp; with_reducible rfl
            simp only [List.setIfInBounds_toArray, List.set_cons_zero, List.set_cons_succ]
            refine wpAnyT_ready (rs := [21]) (by kernel_rfl) (by simp) ?_
            refine AllReadyT.cons (o := _) rfl (fun K hK => ?_) AllReadyT.nil
            go_simp
            clear hc5 hf5
            refine hK.out _ _ (fun h => absurd rfl h) ?_
            clear hK K
            refine wpAnyT_done (by kernel_rfl) ?_ _
            generalize wX5.setCell ⟨q, 1, none⟩ (.slice a4 m4 c4) = wz at *
            go_wp2
            go_end0
            exact ⟨_, _, _, rfl, HFIN.out.1, HX0.out.m.trans HFIN.out.2⟩
