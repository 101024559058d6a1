/- What the landed disk's Append answers. -/
import Derived.Test.YtmbpkbdaakchiaaWOpsB7
namespace Go.Proofs.Ytmbpkbdaakchiaa.Dq
theorem upd_lay {s : ByteArray} {g : Fl → Fl} {f : Fl} (hn : f.name = s) (hg : (g f).name = s) : ∀ {fs : List Fl}, (∀ x ∈ fs, x.name ≠ s) → upd s g (lay f fs) = lay (g f) fs
  | [], _ => by simp [lay, upd, hn]
  | a :: fs, h => by
    have ha : a.name ≠ s := h a (by simp)
    have ht : ∀ x ∈ fs, x.name ≠ s := fun x hx => h x (by simp [hx])
    unfold lay
    rw [hn, hg]
    split
    · have e : upd s g (a :: lay f fs) = a :: upd s g (lay f fs) := by simp [upd, ha]
      rw [e, upd_lay hn hg ht]
    · have e : upd s g (f :: a :: fs) = g f :: a :: upd s g fs := by simp [upd, ha, hn]
      rw [e, upd_none ht]
end Go.Proofs.Ytmbpkbdaakchiaa.Dq
namespace Go.Proofs.Ytmbpkbdaakchiaa
open Go.RowKit

/-- 'append(s, x...)' onto a row, and where the bytes lie then. -/
theorem append_bs_at {ops : Array Oper} {rest : List Oper} {o : Oper} {a : Act} {Q : Exit → Act → World → Prop} (hgd : o.guard = none) (s x : Operand)
    (ho : o.op = .call { callee := .builtin .append, args := #[s, x], argTypes := #[31, 31] })
    (v u : Value) (n : Nat) (xs ys : List UInt8) (w : World) (hs : a.eval s = v) (hx : a.eval x = u) (hown : w.ownsRow 0 5 1 v n (bc xs)) (hb : Bs w u ys) (hN : n + ys.length ≤ 1000000000)
    (h : ∀ v' w', w'.ownsRow 0 5 1 v' (n + ys.length) (bc (xs ++ ys)) → w.grownBy w' v.ownBlock → (∀ k, v'.ownBlock = some k → v.ownBlock = some k ∨ w.heap.size ≤ k) → wpList Try.prog ops Q rest (a.put o.dst v') w') : wpList Try.prog ops Q (o :: rest) a w := by
  obtain ⟨i0, hi, hz0, hz1, hz2⟩ := info_parts infoByte
  obtain ⟨ao, m, c, rfl, hm, hsl⟩ := hb
  cases ao with
  | none =>
    obtain ⟨h0, rfl⟩ := hsl.nil rfl
    obtain rfl : ys = [] := List.length_eq_zero_iff.1 h0
    obtain rfl : m = 0 := hm
    exact wpList_append_own_none hgd s x 31 ho 0 5 i0 1 Try.underlying31 hi v n (bc xs) hs hown hx (h _ _ (by simpa using hown) ⟨rfl, rfl, rfl, Nat.le_refl _, fun _ _ _ => rfl⟩ (fun k hk => Or.inl hk))
  | some ad =>
    subst hm
    refine wpList_append_own_at _ hgd s x 31 ho 0 5 i0 (.int .u8 0) 1 1 Try.underlying31 hi hz0 hz1 hz2 rfl (by decide) v n (bc xs) hs hown ad ys.length c (bc ys) hx (by rw [bc_len]; omega) (hsl.cells ad rfl) (bc_one _) (by unfold maxLen; omega) (by omega) (Nat.zero_le _) ?_
    intro v' w' ho' hg _ hat
    refine h v' w' (by rw [bc_app]; exact ho') hg (fun k hk => ?_)
    rcases hat with e | e
    · exact Or.inl (e ▸ hk)
    · rw [hk] at e
      simp only [Option.some.injEq] at e
      exact Or.inr (by omega)

section
variable {w : World} {q m u : Nat} {st : Dq.St} {G : Nat → Prop} {D : DataW Nat} {P : ByteArray → Nat} {V : ByteArray → Value}

/-- Bytes were put behind a file. -/
theorem DkU.appended {w1 : World} {f : Dq.Fl} {s : ByteArray} {v' : Value} {b : List UInt8} {n u2 : Nat} (h : DkU w q st G m D P V u) (hr : Dq.Rises st.fs) (hf : f ∈ st.fs) (hn : f.name = s)
    (hg : w.grownBy w1 (V s).ownBlock) (row : w1.ownsRow 0 5 1 v' n (bc (f.b ++ b))) (hloc : ∀ k, v'.ownBlock = some k → (V s).ownBlock = some k ∨ w.heap.size ≤ k) :
    let w4 := (w1.setCell ⟨P s, 0, none⟩ v').setCell ⟨q, 2, none⟩ (.int .i64 (u2 : Int))
    DkU w4 q { st with fs := Dq.upd s (fun f => { f with b := f.b ++ b }) st.fs } (Gd w w4 G) m D P (fun x => if x = s then v' else V x) u2 ∧ Moved w w4 G (Gd w w4 G) ∧ w4.heap[m]? = w.heap[m]? := by
  intro w4
  subst hn
  have hfd := h.file f hf
  have hpq := h.p_q hf
  have hb : ∀ k, k < w.heap.size → (V f.name).ownBlock ≠ some k → w1.heap[k]? = w.heap[k]? := fun k hk hne => hg.block k hk (fun e => hne e.symm)
  have hs4 : w4.heap.size = w1.heap.size := by show ((w1.setCell _ _).setCell _ _).heap.size = _; rw [set_size7, set_size7]
  have bq : Blk w1 q [.map (some m), .int .i64 (st.room : Int), .int .i64 (u : Int), .bool (!st.off), .int .i64 (st.lives : Int)] 46 := h.blk.keep (hb q h.blk.lt (h.v_q hf))
  have bp : Blk w1 (P f.name) [V f.name, .int .i64 (f.safe : Int)] 63 := hfd.blk.keep (hb _ hfd.blk.lt (fd_v_p hfd hfd))
  have hno : ∀ k, v'.ownBlock = some k → k ≠ P f.name ∧ k ≠ q := fun k hk => by
    obtain ⟨cur, hc⟩ := row_block row hk
    unfold Blk at bp bq
    refine ⟨fun e => ?_, fun e => ?_⟩
    · rw [e, bp] at hc
      simp only [Option.some.injEq, Obj.cells.injEq] at hc
      exact absurd hc.2.1 (by decide)
    · rw [e, bq] at hc
      simp only [Option.some.injEq, Obj.cells.injEq] at hc
      exact absurd hc.2.1 (by decide)
  have h4 : ∀ k, k ≠ P f.name → k ≠ q → w4.heap[k]? = w1.heap[k]? := fun k h1 h2 => (set_other7 _ _ _ h2).trans (set_other7 _ _ _ h1)
  have hl : n = (f.b ++ b).length := by
    have := row.1
    rw [bc_len] at this
    omega
  refine h.change (g := fun f => { f with b := f.b ++ b }) hr hf rfl (fun _ => rfl) ((bq.keep (set_other7 _ _ _ (Ne.symm hpq))).set 2 (.int .i64 (u2 : Int))) ⟨((bp.set 0 v').keep (set_other7 _ _ _ hpq)), row_keep (hl ▸ row) (fun k hk => h4 k (hno k hk).1 (hno k hk).2)⟩ hloc ⟨hg.os, hg.tape, hg.output, by rw [hs4]; exact hg.size, fun k hk hF => ?_, fun k hk => Or.inl hk⟩
  exact (h4 k (fun e => hF (Or.inr (Or.inl e))) (fun e => hF (Or.inl e))).trans (hb k hk (fun e => hF (Or.inr (Or.inr e))))
end

set_option maxRecDepth 20000 in
set_option maxHeartbeats 8000000 in
theorem append_any7 (q : Nat) (st : Dq.St) (F : Nat → Prop) (s : ByteArray) (v : Value) (b : List UInt8) (w : World) (h : DkD w q st F) (hf : Fine st) (hv : Bs w v b) (hbl : b.length ≤ 100000) (hap : Apart F v b) :
    Calls Try.prog 20 #[dptr q, .string s, v] w fun e w' => ∃ F', e = .returned (.int .i64 (Dq.append st s b).1) ∧ DkD w' q (Dq.append st s b).2 F' ∧ Moved w w' F F' := by
  obtain ⟨m, D, P, V, h⟩ := h
  have HD : Hid (DkU w q st F m D P V (Dq.size st.fs) ∧ Fine st) := ⟨h, hf⟩
  have HV : Hid (Bs w v b ∧ b.length ≤ 100000 ∧ Apart F v b) := ⟨hv, hbl, hap⟩
  obtain ⟨av, nv, cv, rfl, hnv, _⟩ := hv
  have HNV : Hid (nv = b.length) := hnv
  have hnv1 : nv ≤ 100000 := by omega
  obtain ⟨R, hR⟩ : ∃ R, R = st.room := ⟨_, rfl⟩
  obtain ⟨U, hU⟩ : ∃ U, U = Dq.size st.fs := ⟨_, rfl⟩
  have HRU : Hid (R = st.room ∧ U = Dq.size st.fs) := ⟨hR, hU⟩
  have hR1 : R ≤ 1048576 := by have := hf.1.room.2; omega
  have hU1 : U ≤ R := by have := hf.1.fits; omega
  rcases Dq.err_cases st s with ⟨e, h1⟩ | ⟨e, h1, h2⟩ | ⟨e, h1, h2, h3⟩ | ⟨e, h1, h2, f, h3⟩
  · have HX : Hid (Dq.append st s b = (10, st)) := by
      have h : Dq.append st s b = (10, st) := by unfold Dq.append; rw [e]; rfl
      exact h
    rw [HX.out]
    have HC : Hid (Calls Try.prog 35 #[dptr q, .string s] w fun e w' => e = .returned (.tuple #[.pointer none, .int .i64 10]) ∧ Below w.heap.size w w') := dfind_no h e (by decide)
    clear h hf hnv hR hU hbl hap e h1
    go_enter Try.func20, Try.ntmps20
    go_wp2_with fail
    refine HC.out.mono ?_
    rintro e w1 ⟨rfl, hb⟩
    have HB : Hid (Below w.heap.size w w1 ∧ DkU w1 q st F m D P V (Dq.size st.fs)) := ⟨hb, HD.out.1.below hb⟩
    clear hb
    go_wp2
    go_ret
    exact ⟨F, rfl, HB.out.2.toD rfl, Moved.of_below F HB.out.1⟩
  · have HX : Hid (Dq.append st s b = (1, st)) := by
      have h : Dq.append st s b = (1, st) := by unfold Dq.append; rw [e]; rfl
      exact h
    rw [HX.out]
    have HC : Hid (Calls Try.prog 35 #[dptr q, .string s] w fun e w' => e = .returned (.tuple #[.pointer none, .int .i64 1]) ∧ Below w.heap.size w w') := dfind_no h e (by decide)
    clear h hf hnv hR hU hbl hap e h1 h2
    go_enter Try.func20, Try.ntmps20
    go_wp2_with fail
    refine HC.out.mono ?_
    rintro e w1 ⟨rfl, hb⟩
    have HB : Hid (Below w.heap.size w w1 ∧ DkU w1 q st F m D P V (Dq.size st.fs)) := ⟨hb, HD.out.1.below hb⟩
    clear hb
    go_wp2
    go_ret
    exact ⟨F, rfl, HB.out.2.toD rfl, Moved.of_below F HB.out.1⟩
  · have HC : Hid (Calls Try.prog 35 #[dptr q, .string s] w fun e w' => e = .returned (.tuple #[.pointer none, .int .i64 4]) ∧ Below w.heap.size w w') := dfind_no h e (by decide)
    have HE : Hid (Dq.err st s = 4 ∧ Dq.get s st.fs = none ∧ s.size ≤ 20) := by
      refine ⟨e, h3, ?_⟩
      unfold Dq.may at h2
      simp only [Bool.and_eq_true, decide_eq_true_eq] at h2
      exact h2.1.2
    clear h hf hnv hR hU hbl hap e h1 h2 h3
    by_cases hbig : R < U + nv
    · have HX : Hid (Dq.append st s b = (9, st)) := by
        have h : Dq.append st s b = (9, st) := by unfold Dq.append; rw [HE.out.1, ← HRU.out.1, ← HRU.out.2, ← HNV.out]; simp [hbig]
        exact h
      rw [HX.out]
      have hbig' : (R : Int) - (U : Int) < (nv : Int) := by omega
      go_enter Try.func20, Try.ntmps20
      go_wp2_with fail
      refine HC.out.mono ?_
      rintro e w1 ⟨rfl, hb⟩
      have HB : Hid (Below w.heap.size w w1 ∧ DkU w1 q st F m D P V (Dq.size st.fs)) := ⟨hb, HD.out.1.below hb⟩
      have c1 : w1.cell? ⟨q, 1, none⟩ = some (.int .i64 (R : Int)) := by rw [HRU.out.1]; exact HB.out.2.blk.cell 1
      have c2 : w1.cell? ⟨q, 2, none⟩ = some (.int .i64 (U : Int)) := by rw [HRU.out.2]; exact HB.out.2.blk.cell 2
      clear hb
      go_wp2
      go_quiet (fail)
      clear c1 c2
      go_wp2
      go_ret
      exact ⟨F, rfl, (HB.out.2.below (below_drewN (Below.refl _ _) _)).toD rfl, (Moved.of_below F HB.out.1).trans (Moved.of_below F (below_drewN (Below.refl _ _) _))⟩
    · have HX : Hid (Dq.append st s b = (0, { st with fs := Dq.lay ⟨s, b, 0⟩ st.fs })) := by
        have h : Dq.append st s b = (0, { st with fs := Dq.lay ⟨s, b, 0⟩ st.fs }) := by unfold Dq.append; rw [HE.out.1, ← HRU.out.1, ← HRU.out.2, ← HNV.out]; simp [hbig]
        exact h
      rw [HX.out]
      have hbig' : ¬ (R : Int) - (U : Int) < (nv : Int) := by omega
      have hwu : IntKind.wrap .i64 ((U : Int) + (nv : Int)) = ((U + nv : Nat) : Int) := by rw [IntKind.wrap_i64]; omega
      go_enter Try.func20, Try.ntmps20
      go_wp2_with fail
      refine HC.out.mono ?_
      rintro e w1 ⟨rfl, hb⟩
      have HB : Hid (Below w.heap.size w w1 ∧ DkU w1 q st F m D P V (Dq.size st.fs)) := ⟨hb, HD.out.1.below hb⟩
      have c1 : w1.cell? ⟨q, 1, none⟩ = some (.int .i64 (R : Int)) := by rw [HRU.out.1]; exact HB.out.2.blk.cell 1
      have c2 : w1.cell? ⟨q, 2, none⟩ = some (.int .i64 (U : Int)) := by rw [HRU.out.2]; exact HB.out.2.blk.cell 2
      clear hb
      go_wp2
      go_quiet (fail)
      clear c1 c2
      have HRD : Hid (DkU (w1.drewN nq) q st F m D P V (Dq.size st.fs) ∧ Below w.heap.size w (w1.drewN nq)) := ⟨HB.out.2.below (below_drewN (Below.refl _ _) _), below_drewN HB.out.1 _⟩
      generalize w1.drewN nq = wD at *
      obtain ⟨p, hp⟩ : ∃ p, p = wD.heap.size := ⟨_, rfl⟩
      have HPP : Hid (p = wD.heap.size) := hp
      go_wp2_with fail
      rw [← hp]
      clear hp
      obtain ⟨G2, hG2⟩ : ∃ G2 : Nat → Prop, G2 = fun k => F k ∨ k = p := ⟨_, rfl⟩
      obtain ⟨wA, hwA⟩ : ∃ wA, wA = wD.alloc (.cells #[.slice none 0 0, .int .i64 0] 63) := ⟨_, rfl⟩
      rw [← hwA]
      have HA : Hid (DkU wA q st G2 m D P V (Dq.size st.fs) ∧ Moved w wA F G2 ∧ Fd wA p (.slice none 0 0) ⟨s, [], 0⟩ ∧ (∀ g ∈ st.fs, P g.name ≠ p) ∧ G2 p ∧ q < wA.heap.size) := by
        have hb2 : Below wD.heap.size wD wA := by rw [hwA]; exact (Below.refl _ wD).alloc (Nat.le_refl _) _
        have hsz : wA.heap.size = p + 1 := by rw [hwA, HPP.out]; simp
        have hs0 := HRD.out.2.size
        have hd := HRD.out.1.below hb2
        refine ⟨hd.more (fun k hk => by rw [hG2]; exact Or.inl hk) (fun k hk => ?_), ⟨hb2.os.trans HRD.out.2.os, hb2.tape.trans HRD.out.2.tape, hb2.output.trans HRD.out.2.output, by have := HPP.out; omega, fun k hk _ => (hb2.block k (by omega)).trans (HRD.out.2.block k hk), fun k hk => ?_⟩, ⟨?_, World.ownsRow_nil _ _ _ _⟩, fun g hg e => ?_, by rw [hG2]; exact Or.inr rfl, hd.glt q hd.gq⟩
        · rw [hG2] at hk
          rcases hk with hk | hk
          · exact hd.glt k hk
          · omega
        · rw [hG2] at hk
          rcases hk with hk | hk
          · exact Or.inl hk
          · exact Or.inr (by have := HPP.out; omega)
        · rw [hwA, HPP.out]
          exact Blk.made wD [.slice none 0 0, .int .i64 0] _
        · have h1 := HRD.out.1.glt _ (HRD.out.1.gf g hg).1
          have h2 := HPP.out
          omega
      clear hwA hG2
      refine (keep_any7 (f := ⟨s, [], 0⟩) HA.out.1 rfl (show s.size ≤ 1000 by have := HE.out.2.2; omega) HE.out.2.1 (by have := HD.out.2.2.1; omega) HA.out.2.2.1 (fun g hg => ⟨HA.out.2.2.2.1 g hg, fun k hk => fun e => by cases e⟩) ⟨HA.out.2.2.2.2.1, fun k hk => by cases hk⟩).mono ?_
      rintro e w3 ⟨rfl, D3, P3, V3, hd3, hm3, hp3, hv3⟩
      have HU : Hid (DkU w3 q { st with fs := Dq.lay ⟨s, [], 0⟩ st.fs } G2 m D3 P3 V3 (Dq.size st.fs) ∧ Moved w w3 F G2 ∧ P3 s = p ∧ V3 s = .slice none 0 0) := ⟨hd3, HA.out.2.1.trans hm3, hp3, hv3⟩
      have HBV : Hid (Bs w3 (.slice av nv cv) b) := (HV.out.2.2.moved HV.out.1 HU.out.2.1).1
      have HFD : Hid (Fd w3 p (.slice none 0 0) ⟨s, [], 0⟩) := by
        have h := hd3.file ⟨s, [], 0⟩ (Dq.mem_lay.2 (Or.inl rfl))
        simp only [hp3, hv3] at h
        exact h
      have p0 : w3.cell? ⟨p, 0, none⟩ = some (.slice none 0 0) := HFD.out.blk.cell 0
      have HNB : Hid (0 + b.length ≤ 1000000000) := by
        have h : 0 + b.length ≤ 1000000000 := by have := HV.out.2.1; omega
        exact h
      clear hd3 hm3 hp3 hv3
      go_wp2_with (at_builtin; refine append_bs_at rfl _ _ rfl (.slice none 0 0) (.slice av nv cv) 0 [] b _ rfl rfl HFD.out.row HBV.out HNB.out ?_)
      intro v' w4 hrow hg hloc
      have hg : w3.grownBy w4 none := hg
      have HAP : Hid (w4.ownsRow 0 5 1 v' b.length (bc b) ∧ w3.grownBy w4 none ∧ ∀ k, v'.ownBlock = some k → w3.heap.size ≤ k) := ⟨by simpa using hrow, hg, fun k hk => by simpa [Value.ownBlock] using hloc k hk⟩
      have hbp : Blk w4 p [.slice none 0 0, .int .i64 0] 63 := HFD.out.blk.keep (hg.block p HFD.out.blk.lt (by simp))
      have hbq := HU.out.1.blk.keep (hg.block q HU.out.1.blk.lt (by simp))
      have p0 : w4.cell? ⟨p, 0, none⟩ = some (.slice none 0 0) := hbp.cell 0
      have z0 := hbp.free 0
      have c2 : w4.cell? ⟨q, 2, none⟩ = some (.int .i64 (U : Int)) := by rw [HRU.out.2]; exact hbq.cell 2
      have z2 := hbq.free 2
      have hpq : p ≠ q := fun e => by
        have h1 := HFD.out.blk
        have h2 := HU.out.1.blk
        unfold Blk at h1 h2
        rw [e, h2] at h1
        simp only [Option.some.injEq, Obj.cells.injEq] at h1
        exact absurd h1.2.1 (by decide)
      have hqp : q ≠ p := Ne.symm hpq
      obtain ⟨a1, c1, rfl, _⟩ := row_slice HAP.out.1
      obtain ⟨M, hM⟩ : ∃ M, M = b.length := ⟨_, rfl⟩
      rw [← hM] at HAP ⊢
      clear hrow hg hloc hbp hbq hM
      have HFIN : Hid (∃ F', DkD ((w4.setCell ⟨p, 0, none⟩ (.slice a1 M c1)).setCell ⟨q, 2, none⟩ (.int .i64 ((U + nv : Nat) : Int))) q { st with fs := Dq.lay ⟨s, b, 0⟩ st.fs } F' ∧ Moved w ((w4.setCell ⟨p, 0, none⟩ (.slice a1 M c1)).setCell ⟨q, 2, none⟩ (.int .i64 ((U + nv : Nat) : Int))) F F') := by
        have hr : Dq.Rises (Dq.lay ⟨s, [], 0⟩ st.fs) := Dq.rises_lay HD.out.2.1.rises (Dq.get_none HE.out.2.1)
        have key := HU.out.1.appended (w1 := w4) (v' := .slice a1 M c1) (b := b) (u2 := U + nv) hr (Dq.mem_lay.2 (Or.inl rfl)) rfl (by rw [HU.out.2.2.2]; exact HAP.out.2.1) HAP.out.1 (fun k hk => Or.inr (HAP.out.2.2 k hk))
        simp only [] at key
        rw [HU.out.2.2.1, Dq.upd_lay (f := ⟨s, [], 0⟩) rfl rfl (Dq.get_none HE.out.2.1)] at key
        simp only [List.nil_append] at key
        refine ⟨_, key.1.toD ?_, HU.out.2.1.trans key.2.1⟩
        simp only [Dq.size_lay]
        have h1 := HRU.out.2
        have h2 := HNV.out
        omega
      go_wp2
      go_ret
      obtain ⟨F', h1, h2⟩ := HFIN.out
      exact ⟨F', rfl, h1, h2⟩
  · have HC : Hid (Calls Try.prog 35 #[dptr q, .string s] w fun e w' => e = .returned (.tuple #[fptr (P s), .int .i64 0]) ∧ Below w.heap.size w w') := dfind_yes h e
    have HE : Hid (Dq.err st s = 0 ∧ Dq.get s st.fs = some f) := ⟨e, h3⟩
    obtain ⟨p, hp⟩ : ∃ p, p = P s := ⟨_, rfl⟩
    have HP : Hid (p = P s) := hp
    rw [← hp] at HC
    clear h hf hnv hR hU hbl hap e h1 h2 h3 hp
    by_cases hbig : R < U + nv
    · have HX : Hid (Dq.append st s b = (9, st)) := by
        have h : Dq.append st s b = (9, st) := by unfold Dq.append; rw [HE.out.1, ← HRU.out.1, ← HRU.out.2, ← HNV.out]; simp [hbig]
        exact h
      rw [HX.out]
      have hbig' : (R : Int) - (U : Int) < (nv : Int) := by omega
      go_enter Try.func20, Try.ntmps20
      go_wp2_with fail
      refine HC.out.mono ?_
      rintro e w1 ⟨rfl, hb⟩
      have HB : Hid (Below w.heap.size w w1 ∧ DkU w1 q st F m D P V (Dq.size st.fs)) := ⟨hb, HD.out.1.below hb⟩
      have c1 : w1.cell? ⟨q, 1, none⟩ = some (.int .i64 (R : Int)) := by rw [HRU.out.1]; exact HB.out.2.blk.cell 1
      have c2 : w1.cell? ⟨q, 2, none⟩ = some (.int .i64 (U : Int)) := by rw [HRU.out.2]; exact HB.out.2.blk.cell 2
      clear hb
      go_wp2
      go_quiet (fail)
      clear c1 c2
      go_wp2
      go_ret
      exact ⟨F, rfl, (HB.out.2.below (below_drewN (Below.refl _ _) _)).toD rfl, (Moved.of_below F HB.out.1).trans (Moved.of_below F (below_drewN (Below.refl _ _) _))⟩
    · have HX : Hid (Dq.append st s b = (0, { st with fs := Dq.upd s (fun f => { f with b := f.b ++ b }) st.fs })) := by
        have h : Dq.append st s b = (0, { st with fs := Dq.upd s (fun f => { f with b := f.b ++ b }) st.fs }) := by unfold Dq.append; rw [HE.out.1, ← HRU.out.1, ← HRU.out.2, ← HNV.out]; simp [hbig]
        exact h
      rw [HX.out]
      have hbig' : ¬ (R : Int) - (U : Int) < (nv : Int) := by omega
      have hwu : IntKind.wrap .i64 ((U : Int) + (nv : Int)) = ((U + nv : Nat) : Int) := by rw [IntKind.wrap_i64]; omega
      go_enter Try.func20, Try.ntmps20
      go_wp2_with fail
      refine HC.out.mono ?_
      rintro e w1 ⟨rfl, hb⟩
      have HB : Hid (Below w.heap.size w w1 ∧ DkU w1 q st F m D P V (Dq.size st.fs)) := ⟨hb, HD.out.1.below hb⟩
      have c1 : w1.cell? ⟨q, 1, none⟩ = some (.int .i64 (R : Int)) := by rw [HRU.out.1]; exact HB.out.2.blk.cell 1
      have c2 : w1.cell? ⟨q, 2, none⟩ = some (.int .i64 (U : Int)) := by rw [HRU.out.2]; exact HB.out.2.blk.cell 2
      clear hb
      go_wp2
      go_quiet (fail)
      clear c1 c2
      have HU : Hid (DkU (w1.drewN nq) q st F m D P V (Dq.size st.fs) ∧ Moved w (w1.drewN nq) F F) := ⟨HB.out.2.below (below_drewN (Below.refl _ _) _), Moved.of_below F (below_drewN HB.out.1 _)⟩
      generalize w1.drewN nq = w3 at *
      obtain ⟨hf1, hf2, hfd⟩ := HU.out.1.found HE.out.2
      rw [← HP.out] at hfd
      have HBV : Hid (Bs w3 (.slice av nv cv) b) := (HV.out.2.2.moved HV.out.1 HU.out.2).1
      obtain ⟨v0, hv0⟩ : ∃ v0, v0 = V s := ⟨_, rfl⟩
      have HV0 : Hid (v0 = V s) := hv0
      rw [← hv0] at hfd
      obtain ⟨av0, cv0, rfl, hcv0⟩ := row_slice hfd.row
      have hlen : f.b.length ≤ 1048576 := by have := Dq.size_mem hf1; have := HRU.out.2; omega
      obtain ⟨N0, hN0⟩ : ∃ N0, N0 = f.b.length := ⟨_, rfl⟩
      rw [← hN0] at hlen HV0
      have HFD : Hid (Fd w3 p (.slice av0 N0 cv0) f ∧ f ∈ st.fs ∧ f.name = s ∧ N0 = f.b.length) := ⟨hN0 ▸ hfd, hf1, hf2, hN0⟩
      have HOW : Hid (w3.ownsRow 0 5 1 (.slice av0 N0 cv0) N0 (bc f.b)) := by
        have h := HFD.out.1.row
        rw [← hN0] at h
        exact h
      have p0 : w3.cell? ⟨p, 0, none⟩ = some (.slice av0 N0 cv0) := HFD.out.1.blk.cell 0
      have HNB : Hid (N0 + b.length ≤ 1000000000) := by
        have h : N0 + b.length ≤ 1000000000 := by have := HV.out.2.1; omega
        exact h
      have hpq : p ≠ q := fun e => by
        have h1 := HFD.out.1.blk
        have h2 := HU.out.1.blk
        unfold Blk at h1 h2
        rw [e, h2] at h1
        simp only [Option.some.injEq, Obj.cells.injEq] at h1
        exact absurd h1.2.1 (by decide)
      have hqp : q ≠ p := Ne.symm hpq
      clear hfd hf1 hf2 hv0 hN0
      go_wp2_with (at_builtin; refine append_bs_at rfl _ _ rfl (.slice av0 N0 cv0) (.slice av nv cv) N0 f.b b _ rfl rfl HOW.out HBV.out HNB.out ?_)
      intro v' w4 hrow hg hloc
      have HAP : Hid (w4.ownsRow 0 5 1 v' (N0 + b.length) (bc (f.b ++ b)) ∧ w3.grownBy w4 (Value.slice av0 N0 cv0).ownBlock ∧ ∀ k, v'.ownBlock = some k → (Value.slice av0 N0 cv0).ownBlock = some k ∨ w3.heap.size ≤ k) := ⟨hrow, hg, hloc⟩
      have hbp : Blk w4 p [.slice av0 N0 cv0, .int .i64 (f.safe : Int)] 63 := HFD.out.1.blk.keep (hg.block p HFD.out.1.blk.lt (fun e => fd_v_p HFD.out.1 HFD.out.1 e.symm))
      have hbq := HU.out.1.blk.keep (hg.block q HU.out.1.blk.lt (fun e => HU.out.1.v_q HFD.out.2.1 (by rw [HFD.out.2.2.1, ← HV0.out]; exact e.symm)))
      have p0 : w4.cell? ⟨p, 0, none⟩ = some (.slice av0 N0 cv0) := hbp.cell 0
      have z0 := hbp.free 0
      have c2 : w4.cell? ⟨q, 2, none⟩ = some (.int .i64 (U : Int)) := by rw [HRU.out.2]; exact hbq.cell 2
      have z2 := hbq.free 2
      obtain ⟨a1, c1, rfl, _⟩ := row_slice hrow
      obtain ⟨M, hM⟩ : ∃ M, M = N0 + b.length := ⟨_, rfl⟩
      rw [← hM] at HAP ⊢
      clear hrow hg hloc hbp hbq hM
      have HFIN : Hid (∃ F', DkD ((w4.setCell ⟨p, 0, none⟩ (.slice a1 M c1)).setCell ⟨q, 2, none⟩ (.int .i64 ((U + nv : Nat) : Int))) q { st with fs := Dq.upd s (fun f => { f with b := f.b ++ b }) st.fs } F' ∧ Moved w ((w4.setCell ⟨p, 0, none⟩ (.slice a1 M c1)).setCell ⟨q, 2, none⟩ (.int .i64 ((U + nv : Nat) : Int))) F F') := by
        have key := HU.out.1.appended (w1 := w4) (v' := .slice a1 M c1) (b := b) (u2 := U + nv) HD.out.2.1.rises HFD.out.2.1 HFD.out.2.2.1 (by rw [← HV0.out]; exact HAP.out.2.1) HAP.out.1 (by rw [← HV0.out]; exact HAP.out.2.2)
        simp only [] at key
        rw [← HP.out] at key
        refine ⟨_, key.1.toD ?_, HU.out.2.trans key.2.1⟩
        have hsz := Dq.size_upd (g := fun f => { f with b := f.b ++ b }) HD.out.2.1.rises HE.out.2
        simp only [List.length_append] at hsz
        have h1 := HRU.out.2
        have h2 := HNV.out
        simp only []
        omega
      go_wp2
      go_ret
      obtain ⟨F', h1, h2⟩ := HFIN.out
      exact ⟨F', rfl, h1, h2⟩
end Go.Proofs.Ytmbpkbdaakchiaa
