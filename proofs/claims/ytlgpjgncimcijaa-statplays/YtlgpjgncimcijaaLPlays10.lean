/- StatPlays: its walk. -/
import Derived.Test.YtlgpjgncimcijaaRefD10
import Derived.Test.YtlgpjgncimcijaaLong10
import Derived.Test.YtlgpjgncimcijaaTakeAt
import Derived.Test.YtlgpjgncimcijaaOpenK10
namespace Go.Proofs.Ytlgpjgncimcijaa
open Go.RowKit

/-- Both nodes: the landed one at qa, the reference's at qb. -/
structure Pl10 (W w : World) (qa qb : Nat) (n m : Kq.Kn) (v u : Value) : Prop where
  mine : Mine10 W w qa n v
  ref : Cb w qb (k10 m u) 40
  nm : Nm w u m.names
  hq : W.heap.size ≤ qb
  ap : m.names ≠ [] → ∀ k, u.ownBlock = some k → ¬ Fn qa v k ∧ k ≠ qb
section
variable {W w w' : World} {qa qb : Nat} {n n' m m' : Kq.Kn} {v v' u u' : Value} {l : List ByteArray}
theorem Pl10.off (h : Pl10 W w qa qb n m v u) : ¬ Fn qa v qb := fun e => by
  rcases e with e | e
  · have h1 := h.mine.own.blk
    have h2 := h.ref
    unfold Cb at h1 h2
    rw [e, h1] at h2
    simp only [Option.some.injEq, Obj.cells.injEq] at h2
    exact absurd h2.2.1 (by decide)
  · exact h.ref.apart h.mine.own.row (by decide) e
theorem Nm.lt (h : Nm w u l) (hl : l ≠ []) (k : Nat) (hk : u.ownBlock = some k) : k < w.heap.size := by
  rcases h with ⟨rfl, e⟩ | ⟨g, o, c, rfl, _, h3⟩
  · exact absurd e hl
  · simp only [Value.ownBlock, Option.some.injEq] at hk
    cases l with
    | nil => exact absurd rfl hl
    | cons s l =>
      have h4 := World.block_lt_of_cell? w _ (h3 0 s rfl)
      simp only [] at h4
      omega
theorem Nm.keep (h : Nm w u l) (hk : l ≠ [] → ∀ k, u.ownBlock = some k → w'.heap[k]? = w.heap[k]?) : Nm w' u l := by
  rcases h with h | ⟨g, o, c, rfl, h2, h3⟩
  · exact Or.inl h
  · refine Or.inr ⟨g, o, c, rfl, h2, fun j s hs => ?_⟩
    have hne : l ≠ [] := fun e => by rw [e] at hs; simp at hs
    exact (World.cell?_of_block (hk hne g rfl)).trans (h3 j s hs)
theorem Pl10.own (h : Pl10 W w qa qb n m v u) (hM : Mine10 W w' qa n' v') (hm : Moved w w' (Fn qa v) (Fn qa v')) : Pl10 W w' qa qb n' m v' u := by
  refine ⟨hM, h.ref.keep (hm.block _ h.ref.lt h.off), h.nm.keep (fun hne k hk => hm.block k (h.nm.lt hne k hk) (h.ap hne k hk).1), h.hq, fun hne k hk => ⟨fun e => ?_, (h.ap hne k hk).2⟩⟩
  rcases hm.sub k e with e | e
  · exact (h.ap hne k hk).1 e
  · have := h.nm.lt hne k hk
    omega
theorem Pl10.later (h : Pl10 W w qa qb n m v u) (hb : Below w.heap.size w w') : Pl10 W w' qa qb n m v u := ⟨h.mine.later hb, h.ref.below hb, h.nm.below hb, h.hq, h.ap⟩
theorem Pl10.put (h : Pl10 W w qa qb n m v u) (hn : Nm w u' m'.names) (ha : m'.names ≠ [] → ∀ k, u'.ownBlock = some k → ¬ Fn qa v k ∧ k ≠ qb) : Pl10 W (put10 w qb m' u') qa qb n m' v u' := by
  have hg := put10_grown w qb m' u'
  have hm : Moved w (put10 w qb m' u') (fun k => k = qb) (fun k => k = qb) := ⟨hg.os, hg.tape, hg.output, hg.size, fun k hk hF => hg.block k hk (fun e => hF (Option.some.inj e)), fun _ hk => Or.inl hk⟩
  refine ⟨⟨h.mine.own.keep (fun k hk => hm.block k (h.mine.own.flt hk) (fun e => h.off (e ▸ hk))), h.mine.fine, h.mine.hi, h.mine.below.trans (hm.below h.mine.below.size (fun k e => by rw [e]; exact h.hq))⟩, put10_cb h.ref, hn.keep (fun hne k hk => hm.block k (hn.lt hne k hk) (ha hne k hk).2), h.hq, ha⟩
end
theorem mine_row {W w : World} {q : Nat} {n : Kq.Kn} {v : Value} (h : Mine10 W w q n v) : ∃ a c, v = .slice a n.names.length c := by
  obtain ⟨a, c, e, _⟩ := row_form h.own.row
  exact ⟨a, c, e⟩
theorem nm_form {w : World} {u : Value} {l : List ByteArray} (h : Nm w u l) : ∃ a c, u = .slice a l.length c := by
  rcases h with ⟨rfl, rfl⟩ | ⟨g, o, c, rfl, _⟩
  · exact ⟨_, _, rfl⟩
  · exact ⟨_, _, rfl⟩

set_option maxRecDepth 20000 in
set_option maxHeartbeats 16000000 in
theorem plays_any10 (S : Specs10) (n : Kq.Kn) (u vl : Value) (acs : List Kq.Ac) (W : World) (hnm : Nm W u n.names) (hok : KnOk n) (hub : ∀ k, u.ownBlock = some k → k < W.heap.size) (hl : Acl10 W vl acs) (hll : acs.length ≤ maxLen) (haok : ∀ x ∈ acs, AcOk x) :
    Calls Try.prog 4 #[kv n u, vl] W fun e w' => e = .returned (.bool true) ∧ Below W.heap.size W w' := by
  have HS : Hid Specs10 := S
  obtain ⟨av, N, c, rfl, hN, hc⟩ := hl
  have HC : Hid ((∀ (j : Nat) x, acs[j]? = some x → ∃ g o, av = some ⟨g, o, none⟩ ∧ ∀ (i : Nat) u, (aac x)[i]? = some u → W.cell? ⟨g, o + j * 3 + i, none⟩ = some u) ∧ N = acs.length ∧ ∀ x ∈ acs, AcOk x) := ⟨hc, hN, haok⟩
  obtain ⟨ua, uc, hu⟩ := nm_form hnm
  obtain ⟨uL, huL⟩ : ∃ z, z = n.names.length := ⟨_, rfl⟩
  rw [← huL] at hu
  subst hu
  have HU : Hid (Nm W (.slice ua uL uc) n.names ∧ KnOk n ∧ (∀ k, (Value.slice ua uL uc).ownBlock = some k → k < W.heap.size) ∧ uL = n.names.length) := ⟨hnm, hok, hub, huL⟩
  have hN1 : N ≤ 9223372036854775807 := by unfold maxLen at hll; omega
  clear S hc hN haok hll hnm hok hub huL
  obtain ⟨qa, hqa⟩ : ∃ z, z = W.heap.size := ⟨_, rfl⟩
  have H0 : Hid (Cb (W.alloc (.cells #[.int .i64 n.made, .int .i64 n.changed, .int .i64 n.ver, .int .i64 n.kids, .int .i64 n.owner, .int .i64 n.len, .int .i64 n.cnt, .string n.data, .int .i64 n.next, .slice ua uL uc] 27)) qa (k10 n (.slice ua uL uc)) 27 ∧ Below W.heap.size W (W.alloc (.cells #[.int .i64 n.made, .int .i64 n.changed, .int .i64 n.ver, .int .i64 n.kids, .int .i64 n.owner, .int .i64 n.len, .int .i64 n.cnt, .string n.data, .int .i64 n.next, .slice ua uL uc] 27))) := ⟨by rw [hqa]; exact Cb.made W _ _, (Below.refl _ W).alloc (Nat.le_refl _) _⟩
  have HQA : Hid (qa = W.heap.size) := hqa
  unfold kv
  go_enter Try.func4, Try.ntmps4
  go_wp2_with fail
  rw [← hqa]
  clear hqa
  generalize W.alloc (.cells #[.int .i64 n.made, .int .i64 n.changed, .int .i64 n.ver, .int .i64 n.kids, .int .i64 n.owner, .int .i64 n.len, .int .i64 n.cnt, .string n.data, .int .i64 n.next, .slice ua uL uc] 27) = w0 at *
  refine (awake_any10 HS.out w0).mono ?_
  rintro e w1 ⟨rfl, hb⟩
  have H1 : Hid (Cb w1 qa (k10 n (.slice ua uL uc)) 27 ∧ Below W.heap.size W w1) := ⟨H0.out.1.below hb, H0.out.2.trans (hb.mono H0.out.2.size)⟩
  clear hb H0
  obtain ⟨c0, c1, c2, c3, c4, c5, c6, c7, c8, c9⟩ := ten_cells H1.out.1
  go_wp2_with fail
  refine (long_any10 n ua uL uc w1 (HU.out.1.below H1.out.2).ss HU.out.2.1.many HU.out.2.1.data HU.out.2.1.long).mono ?_
  rintro e w2 ⟨t2, rfl, ht2, hb⟩
  have H2 : Hid (Cb w2 qa (k10 n (.slice ua uL uc)) 27 ∧ Below W.heap.size W w2) := ⟨H1.out.1.below hb, H1.out.2.trans (hb.mono H1.out.2.size)⟩
  have HT2 : Hid (t2 = true ↔ LongN n) := ht2
  clear hb H1 ht2 c0 c1 c2 c3 c4 c5 c6 c7 c8 c9
  cases t2 with
  | true =>
    go_wp2
    go_ret
    exact ⟨rfl, H2.out.2⟩
  | false =>
    have HSH : Hid (¬ LongN n) := fun h => by have := HT2.out.2 h; cases this
    clear HT2
    have c9 : w2.cell? ⟨qa, 9, none⟩ = some (.slice ua uL uc) := H2.out.1.cell 9
    go_wp2_with fail
    clear c9
    refine (rising_any (.slice ua uL uc) n.names w2 (HU.out.1.below H2.out.2).ss (by have h1 := HSH.out; unfold LongN at h1; omega)).mono ?_
    rintro e w3 ⟨t3, rfl, ht3, hb⟩
    have H3 : Hid (Cb w3 qa (k10 n (.slice ua uL uc)) 27 ∧ Below W.heap.size W w3) := ⟨H2.out.1.below hb, H2.out.2.trans (hb.mono H2.out.2.size)⟩
    have HT3 : Hid (t3 = true ↔ Kq.Rises n.names) := ht3
    clear hb H2 ht3
    cases t3 with
    | false =>
      go_wp2
      go_ret
      exact ⟨rfl, H3.out.2⟩
    | true =>
      have HRI : Hid (Kq.Rises n.names) := HT3.out.1 (by simp)
      clear HT3
      by_cases h60 : 60 < N
      · have h60' : (60 : Int) < (N : Int) := by omega
        go_wp2
        go_ret
        exact ⟨rfl, H3.out.2⟩
      have h60' : ¬ (60 : Int) < (N : Int) := by omega
      have HSM : Hid (n.names.length ≤ 40 ∧ (∀ s ∈ n.names, s.size ≤ 100) ∧ n.data.size ≤ 1200) := by
        have h1 := HSH.out
        unfold LongN at h1
        refine ⟨by omega, fun s hs => ?_, by omega⟩
        rcases Nat.lt_or_ge 100 s.size with h | h
        · exact absurd (Or.inr (Or.inr ⟨s, hs, h⟩)) h1
        · exact h
      obtain ⟨c0, c1, c2, c3, c4, c5, c6, c7, c8, c9⟩ := ten_cells H3.out.1
      go_wp2_with fail
      refine (nd_any10 n ua uL uc w3).mono ?_
      rintro e w4 ⟨rfl, hb⟩
      have H4 : Hid (Cb w4 qa (k10 n (.slice ua uL uc)) 27 ∧ Below W.heap.size W w4) := ⟨H3.out.1.below hb, H3.out.2.trans (hb.mono H3.out.2.size)⟩
      clear hb H3 c0 c1 c2 c3 c4 c5 c6 c7 c8 c9
      obtain ⟨qb, hqb⟩ : ∃ z, z = w4.heap.size := ⟨_, rfl⟩
      obtain ⟨qr, hqr⟩ : ∃ z, z = w4.heap.size + 1 := ⟨_, rfl⟩
      have hb5 := (Below.refl _ w4).alloc (Nat.le_refl _) (.cells #[.int .i64 n.made, .int .i64 n.changed, .int .i64 n.ver, .int .i64 n.kids, .int .i64 n.owner, .int .i64 n.len, .int .i64 n.cnt, .string n.data, .int .i64 n.next, .slice ua uL uc] 40)
      have H5 : Hid (Cb (w4.alloc (.cells #[.int .i64 n.made, .int .i64 n.changed, .int .i64 n.ver, .int .i64 n.kids, .int .i64 n.owner, .int .i64 n.len, .int .i64 n.cnt, .string n.data, .int .i64 n.next, .slice ua uL uc] 40)) qa (k10 n (.slice ua uL uc)) 27 ∧ Below W.heap.size W (w4.alloc (.cells #[.int .i64 n.made, .int .i64 n.changed, .int .i64 n.ver, .int .i64 n.kids, .int .i64 n.owner, .int .i64 n.len, .int .i64 n.cnt, .string n.data, .int .i64 n.next, .slice ua uL uc] 40)) ∧ Cb (w4.alloc (.cells #[.int .i64 n.made, .int .i64 n.changed, .int .i64 n.ver, .int .i64 n.kids, .int .i64 n.owner, .int .i64 n.len, .int .i64 n.cnt, .string n.data, .int .i64 n.next, .slice ua uL uc] 40)) qb (k10 n (.slice ua uL uc)) 40) := ⟨H4.out.1.below hb5, H4.out.2.trans (hb5.mono H4.out.2.size), by rw [hqb]; exact Cb.made w4 _ _⟩
      have HQB : Hid (W.heap.size ≤ qb ∧ qr = (w4.alloc (.cells #[.int .i64 n.made, .int .i64 n.changed, .int .i64 n.ver, .int .i64 n.kids, .int .i64 n.owner, .int .i64 n.len, .int .i64 n.cnt, .string n.data, .int .i64 n.next, .slice ua uL uc] 40)).heap.size) := ⟨by rw [hqb]; exact H4.out.2.size, by rw [hqr]; simp⟩
      have c9 : w4.cell? ⟨qa, 9, none⟩ = some (.slice ua uL uc) := H4.out.1.cell 9
      clear hb5
      unfold kv
      go_upto_region 6 with fail
      clear c9
      rw [← hqb]
      clear hqb hqr
      generalize w4.alloc (.cells #[.int .i64 n.made, .int .i64 n.changed, .int .i64 n.ver, .int .i64 n.kids, .int .i64 n.owner, .int .i64 n.len, .int .i64 n.cnt, .string n.data, .int .i64 n.next, .slice ua uL uc] 40) = w5 at *
      have c9 : (w5.alloc (.cells #[] 9)).cell? ⟨qa, 9, none⟩ = some (.slice ua uL uc) := (H5.out.1.below ((Below.refl _ w5).alloc (Nat.le_refl _) _)).cell 9
      go_wp2_with (at_builtin; refine append_strs rfl _ _ rfl w5.heap.size (.slice (some ⟨w5.heap.size, 0, none⟩) 0 0) (.slice ua uL uc) [] n.names (w5.alloc (.cells #[] 9)) rfl rfl (World.ownsRow_made w5 #[] 0 (Nat.le_refl _) (by decide) rfl) (by simp) (Nm.src (HU.out.1.below (H5.out.2.1.alloc H5.out.2.1.size _))) (by have := HSM.out.1; simp only [List.length_nil]; omega) ?_)
      intro v6 w6 ho hb
      obtain ⟨a6, c6, hv6, hrest⟩ := row_form ho
      obtain ⟨L6, hL6⟩ : ∃ z, z = n.names.length := ⟨_, rfl⟩
      rw [← hL6] at hv6
      subst hv6
      have hb56 : Below w5.heap.size w5 w6 := ((Below.refl _ w5).alloc (Nat.le_refl _) _).trans (hb.mono (Nat.le_refl _))
      have H6 : Hid (Cb w6 qa (k10 n (.slice ua uL uc)) 27 ∧ Below W.heap.size W w6 ∧ Cb w6 qb (k10 n (.slice ua uL uc)) 40 ∧ w6.ownsRow w5.heap.size 9 1 (.slice a6 L6 c6) n.names.length (sc n.names) ∧ W.heap.size ≤ w5.heap.size) := ⟨H5.out.1.below hb56, H5.out.2.1.trans (hb56.mono H5.out.2.1.size), H5.out.2.2.below hb56, ho, H5.out.2.1.size⟩
      clear ho hb hb56 hrest hL6 c9 H5 H4
      have HP0 : Hid (Pl10 W (w6.setCell ⟨qa, 9, none⟩ (.slice a6 L6 c6)) qa qb n n (.slice a6 L6 c6) (.slice ua uL uc)) := by
        have hqa := HQA.out
        have hne : qb ≠ qa := fun e => by
          have h1 := H6.out.1
          have h2 := H6.out.2.2.1
          unfold Cb at h1 h2
          rw [e, h1] at h2
          simp only [Option.some.injEq, Obj.cells.injEq] at h2
          exact absurd h2.2.1 (by decide)
        have hap := H6.out.1.apart H6.out.2.2.2.1 (by decide)
        have hbW : Below W.heap.size W (w6.setCell ⟨qa, 9, none⟩ (.slice a6 L6 c6)) := H6.out.2.1.grown (grownBy_setCell w6 ⟨qa, 9, none⟩ _) H6.out.2.1.size (fun k hk => by simp at hk; omega)
        have hrow : (w6.setCell ⟨qa, 9, none⟩ (.slice a6 L6 c6)).ownsRow w5.heap.size 9 1 (.slice a6 L6 c6) n.names.length (sc n.names) := row_stays H6.out.2.2.2.1 (fun k hk => RowKit.Below.heap_setCell _ _ _ _ (fun e => hap (by rw [hk]; exact congrArg some e)))
        have hhi : ∀ k, Fn qa (.slice a6 L6 c6) k → W.heap.size ≤ k := fun k hk => by
          rcases hk with rfl | hk
          · omega
          · exact Nat.le_trans H6.out.2.2.2.2 (hrow.lt k hk).1
        refine ⟨⟨⟨H6.out.1.set 9 _, hrow.mono (Nat.zero_le _), HRI.out⟩, ⟨HU.out.2.1.ver, HU.out.2.1.kids, HU.out.2.1.next, by have := HSM.out.1; omega, fun s hs => by have := HSM.out.2.1 s hs; omega, by have := HSM.out.2.2; omega⟩, hhi, hbW⟩, H6.out.2.2.1.keep (RowKit.Below.heap_setCell _ _ _ _ hne), HU.out.1.below hbW, HQB.out.1, fun _ k hk => ⟨fun e => ?_, fun e => ?_⟩⟩
        · have h1 := HU.out.2.2.1 k hk
          have h2 := hhi k e
          omega
        · have h1 := HU.out.2.2.1 k hk
          have h2 := HQB.out.1
          omega
      have c9 : w6.cell? ⟨qa, 9, none⟩ = some (.slice ua uL uc) := H6.out.1.cell 9
      have f9 := H6.out.1.free 9
      have HLN : Hid (n.names.length ≤ 40) := HSM.out.1
      go_upto_region 7 with fail
      clear c9 f9 H6 HSM HSH HRI HQA HQB
      generalize w6.setCell ⟨qa, 9, none⟩ (.slice a6 L6 c6) = w7 at *
      go_wp2
      go_loopw [6] (fun i wr => ∃ (k : Nat) (m : Kq.Kn) (v u : Value), k ≤ N ∧ i = .int .i64 (k : Int) ∧ Pl10 W wr qa qb m m v u ∧ m.names.length ≤ 40 + k) (fun i _ => N - (intOf i).toNat)
      case atStart => exact ⟨0, n, _, _, Nat.zero_le _, rfl, HP0.out, HLN.out⟩
      case round =>
        obtain ⟨k, m, v, u, hk, rfl, hP, hm40⟩ := hrel
        have HP : Hid (Pl10 W wr qa qb m m v u ∧ m.names.length ≤ 40 + k) := ⟨hP, hm40⟩
        clear hP hm40 HP0 HLN
        by_cases hlt : k < N
        · have hlt' : (k : Int) < (N : Int) := by omega
          have hk0 : (0 : Int) ≤ (k : Int) := by omega
          have hwk : IntKind.wrap .i64 ((k : Int) + 1) = (k : Int) + 1 := by rw [IntKind.wrap_i64]; omega
          obtain ⟨x, hx⟩ : ∃ x, acs[k]? = some x := ⟨_, List.getElem?_eq_getElem (by have := HC.out.2.1; omega)⟩
          have HX : Hid (AcOk x) := HC.out.2.2 x (List.mem_of_getElem? hx)
          obtain ⟨g, o2, hav, hcell⟩ := HC.out.1 k x hx
          subst hav
          obtain ⟨op, xn, xs⟩ := x
          have y0 : wr.cell? ⟨g, o2 + k * 3, none⟩ = some (.int .i64 op) := Below.kept HP.out.1.mine.below (hcell 0 _ rfl)
          have y1 : wr.cell? ⟨g, o2 + k * 3 + 1, none⟩ = some (.int .i64 xn) := Below.kept HP.out.1.mine.below (hcell 1 _ rfl)
          have y2 : wr.cell? ⟨g, o2 + k * 3 + 2, none⟩ = some (.string xs) := Below.kept HP.out.1.mine.below (hcell 2 _ rfl)
          have hsm : xs.size ≤ 9223372036854775807 := by have := HX.out.s; simp only [] at this; unfold maxLen at this; omega
          clear hx hcell
          obtain ⟨qx, hqx⟩ : ∃ z, z = wr.heap.size := ⟨_, rfl⟩
          have hbA := (Below.refl _ wr).alloc (Nat.le_refl _) (.cells #[.int .i64 op, .int .i64 xn, .string xs] 43)
          have HA : Hid (Pl10 W (wr.alloc (.cells #[.int .i64 op, .int .i64 xn, .string xs] 43)) qa qb m m v u ∧ Cb (wr.alloc (.cells #[.int .i64 op, .int .i64 xn, .string xs] 43)) qx [.int .i64 op, .int .i64 xn, .string xs] 43 ∧ ¬ Fn qa v qx) := ⟨HP.out.1.later hbA, by rw [hqx]; exact Cb.made wr _ _, fun e => by have := HP.out.1.mine.own.flt e; omega⟩
          have HM40 : Hid (m.names.length ≤ 40 + k) := HP.out.2
          clear hbA
          go_upto_region 11 with fail
          rw [← hqx]
          clear hqx y0 y1 y2 HP
          generalize wr.alloc (.cells #[.int .i64 op, .int .i64 xn, .string xs] 43) = wA at *
          have x2 : wA.cell? ⟨qx, 2, none⟩ = some (.string xs) := HA.out.2.1.cell 2
          by_cases h200 : 200 < xs.size
          · have h200' : (200 : Int) < (xs.size : Int) := by omega
            go_wp2
            go_ret
            exact ⟨rfl, HA.out.1.mine.below⟩
          have h200' : ¬ (200 : Int) < (xs.size : Int) := by omega
          have x0 : wA.cell? ⟨qx, 0, none⟩ = some (.int .i64 op) := HA.out.2.1.cell 0
          have x1 : wA.cell? ⟨qx, 1, none⟩ = some (.int .i64 xn) := HA.out.2.1.cell 1
          by_cases o0 : op = 0
          · subst o0
            obtain ⟨m5, hm5⟩ : ∃ z, z = Kq.write m xn xs := ⟨_, rfl⟩
            have HN5 : Hid (m5 = Kq.write m xn xs) := hm5
            have HM5 : Hid (m5.names.length ≤ 40 + (k + 1)) := by
              have e : m5.names.length ≤ 40 + (k + 1) := by rw [hm5]; have h1 := HM40.out; show m.names.length ≤ 40 + (k + 1); omega
              exact e
            clear hm5
            go_wp2_with fail
            refine (HA.out.1.mine.write HS.out xn xs (by omega)).mono ?_
            rintro e w5 ⟨rfl, hM, hmv⟩
            have HFN : Hid (Fine10 m) := HA.out.1.mine.fine
            rw [← HN5.out] at hM
            have HB : Hid (Pl10 W w5 qa qb m5 m v u ∧ Cb w5 qx [.int .i64 0, .int .i64 xn, .string xs] 43) := ⟨HA.out.1.own hM hmv, HA.out.2.1.keep (hmv.block _ HA.out.2.1.lt HA.out.2.2)⟩
            clear hM hmv x0 x1 x2 HA
            generalize v = v5 at *
            obtain ⟨ua1, uc1, hv⟩ := nm_form HB.out.1.nm
            obtain ⟨uL1, huL1⟩ : ∃ z, z = m.names.length := ⟨_, rfl⟩
            rw [← huL1] at hv
            subst hv
            clear huL1
            obtain ⟨b0, b1, b2, b3, b4, b5, b6, b7, b8, b9⟩ := ten_cells HB.out.1.ref
            have x1 : w5.cell? ⟨qx, 1, none⟩ = some (.int .i64 xn) := HB.out.2.cell 1
            have x2 : w5.cell? ⟨qx, 2, none⟩ = some (.string xs) := HB.out.2.cell 2
            go_wp2_with fail
            refine (refWrite_any m ua1 uL1 uc1 xn xs w5 HFN.out.ver).mono ?_
            rintro e w6 ⟨rfl, hb⟩
            rw [← HN5.out]
            obtain ⟨ub5, hub5⟩ : ∃ z, z = ua1 := ⟨_, rfl⟩
            obtain ⟨uM5, huM5⟩ : ∃ z, z = uL1 := ⟨_, rfl⟩
            obtain ⟨ud5, hud5⟩ : ∃ z, z = uc1 := ⟨_, rfl⟩
            have HEU : Hid (ub5 = ua1 ∧ uM5 = uL1 ∧ ud5 = uc1 ∧ m5.names = m.names) := ⟨hub5, huM5, hud5, by rw [HN5.out]; rfl⟩
            rw [← hub5, ← huM5, ← hud5]
            clear hub5 huM5 hud5
            have HD : Hid (Pl10 W w6 qa qb m5 m v5 (.slice ua1 uL1 uc1) ∧ Nm w6 (.slice ub5 uM5 ud5) m5.names ∧ (m5.names ≠ [] → ∀ k, (Value.slice ub5 uM5 ud5).ownBlock = some k → ¬ Fn qa v5 k ∧ k ≠ qb)) := by
              have h1 := HB.out.1.later hb
              have hE := HEU.out
              refine ⟨h1, ?_, fun hne k hk => ?_⟩
              · rw [hE.1, hE.2.1, hE.2.2.1, hE.2.2.2]
                exact h1.nm
              · rw [hE.1, hE.2.1, hE.2.2.1] at hk
                rw [hE.2.2.2] at hne
                exact h1.ap hne k hk
            clear hb x1 x2
            clear b0 b1 b2 b3 b4 b5 b6 b7 b8 b9
            have HZ : Hid (Pl10 W (put10 w6 qb m5 (.slice ub5 uM5 ud5)) qa qb m5 m5 v5 (.slice ub5 uM5 ud5) ∧ m5.names.length ≤ 40 + (k + 1)) := ⟨HD.out.1.put HD.out.2.1 HD.out.2.2, HM5.out⟩
            unfold put10 at HZ
            obtain ⟨b0, b1, b2, b3, b4, b5, b6, b7, b8, b9⟩ := ten_cells HD.out.1.ref
            have f0 := HD.out.1.ref.free 0
            have f1 := HD.out.1.ref.free 1
            have f2 := HD.out.1.ref.free 2
            have f3 := HD.out.1.ref.free 3
            have f4 := HD.out.1.ref.free 4
            have f5 := HD.out.1.ref.free 5
            have f6 := HD.out.1.ref.free 6
            have f7 := HD.out.1.ref.free 7
            have f8 := HD.out.1.ref.free 8
            have f9 := HD.out.1.ref.free 9
            unfold kv
            go_wp2_with fail
            clear HB HD
            clear b0 b1 b2 b3 b4 b5 b6 b7 b8 b9 f0 f1 f2 f3 f4 f5 f6 f7 f8 f9
            generalize ((((((((((w6.setCell ⟨qb, 0, none⟩ (.int .i64 m5.made)).setCell ⟨qb, 1, none⟩ (.int .i64 m5.changed)).setCell ⟨qb, 2, none⟩ (.int .i64 m5.ver)).setCell ⟨qb, 3, none⟩ (.int .i64 m5.kids)).setCell ⟨qb, 4, none⟩ (.int .i64 m5.owner)).setCell ⟨qb, 5, none⟩ (.int .i64 m5.len)).setCell ⟨qb, 6, none⟩ (.int .i64 m5.cnt)).setCell ⟨qb, 7, none⟩ (.string m5.data)).setCell ⟨qb, 8, none⟩ (.int .i64 m5.next)).setCell ⟨qb, 9, none⟩ (.slice ub5 uM5 ud5)) = wz at *
            generalize Value.slice ub5 uM5 ud5 = u5 at *
            obtain ⟨va, vc, hv⟩ := mine_row HZ.out.1.mine
            obtain ⟨vL, hvL⟩ : ∃ z, z = m5.names.length := ⟨_, rfl⟩
            rw [← hvL] at hv
            subst hv
            obtain ⟨ub, ud, hv⟩ := nm_form HZ.out.1.nm
            obtain ⟨uM, huM⟩ : ∃ z, z = m5.names.length := ⟨_, rfl⟩
            rw [← huM] at hv
            subst hv
            clear hvL huM
            obtain ⟨E, hE⟩ : ∃ E, E = decide (m5.owner ≠ 0) := ⟨_, rfl⟩
            have hE1 : (m5.owner != 0) = E := by rw [hE]; simp [bne, BEq.beq]
            have hE2 : (E != E) = false := by simp
            have HE : Hid (E = decide (m5.owner ≠ 0)) := hE
            clear hE
            refine wp_region_held_drew (S := fun w' => Cb w' qa (k10 m5 (.slice va vL vc)) 27 ∧ Cb w' qb (k10 m5 (.slice ub uM ud)) 40) (by kernel_rfl) ⟨HZ.out.1.mine.own.blk, HZ.out.1.ref⟩ (fun _ => ?_)
            have HX0 : Hid (Pl10 W wz.drew qa qb m5 m5 (.slice va vL vc) (.slice ub uM ud) ∧ m5.names.length ≤ 40 + (k + 1)) := ⟨HZ.out.1.later (Below.refl _ _).drew, HZ.out.2⟩
            clear HZ
            generalize wz.drew = s0 at *
            refine' take_at (i := 0) (d := 83) (v := _) rfl rfl (by kernel_rfl) (by kernel_rfl) (by kernel_rfl) (fun _ _ _ h => h) (Or.inl ⟨by rfl, ?h0⟩) (⟨HX0.out.1.mine.own.blk, HX0.out.1.ref⟩) ?_
            case h0 =>
              intro w hSw
              obtain ⟨hSA, hSB⟩ := hSw
              go_simp
              with_reducible rfl
            simp only [List.setIfInBounds_toArray, List.set_cons_zero, List.set_cons_succ]
            refine' take_at (i := 1) (d := 84) (v := _) rfl rfl (by kernel_rfl) (by kernel_rfl) (by kernel_rfl) (fun _ _ _ h => h) (Or.inl ⟨by rfl, ?h1⟩) (⟨HX0.out.1.mine.own.blk, HX0.out.1.ref⟩) ?_
            case h1 =>
              intro w hSw
              obtain ⟨hSA, hSB⟩ := hSw
              go_simp
              with_reducible rfl
            simp only [List.setIfInBounds_toArray, List.set_cons_zero, List.set_cons_succ]
            refine' take_at (i := 2) (d := 85) (v := _) rfl rfl (by kernel_rfl) (by kernel_rfl) (by kernel_rfl) (fun _ _ _ h => h) (Or.inl ⟨by rfl, ?h2⟩) (⟨HX0.out.1.mine.own.blk, HX0.out.1.ref⟩) ?_
            case h2 =>
              intro w hSw
              obtain ⟨hSA, hSB⟩ := hSw
              go_simp
              with_reducible rfl
            simp only [List.setIfInBounds_toArray, List.set_cons_zero, List.set_cons_succ]
            refine' take_at (i := 3) (d := 86) (v := _) rfl rfl (by kernel_rfl) (by kernel_rfl) (by kernel_rfl) (fun _ _ _ h => h) (Or.inl ⟨by rfl, ?h3⟩) (⟨HX0.out.1.mine.own.blk, HX0.out.1.ref⟩) ?_
            case h3 =>
              intro w hSw
              obtain ⟨hSA, hSB⟩ := hSw
              go_simp
              with_reducible rfl
            simp only [List.setIfInBounds_toArray, List.set_cons_zero, List.set_cons_succ]
            refine' take_at (i := 4) (d := 87) (v := _) rfl rfl (by kernel_rfl) (by kernel_rfl) (by kernel_rfl) (fun _ _ _ h => h) (Or.inl ⟨by rfl, ?h4⟩) (⟨HX0.out.1.mine.own.blk, HX0.out.1.ref⟩) ?_
            case h4 =>
              intro w hSw
              obtain ⟨hSA, hSB⟩ := hSw
              obtain ⟨a0, a1, a2, a3, a4, a5, a6, a7, a8, a9⟩ := ten_cells hSA
              go_simp
              with_reducible rfl
            simp only [List.setIfInBounds_toArray, List.set_cons_zero, List.set_cons_succ]
            refine' take_at (i := 6) (d := 89) (v := _) rfl rfl (by kernel_rfl) (by kernel_rfl) (by kernel_rfl) (fun _ _ _ h => h) (Or.inl ⟨by rfl, ?h6⟩) (⟨HX0.out.1.mine.own.blk, HX0.out.1.ref⟩) ?_
            case h6 =>
              intro w hSw
              obtain ⟨hSA, hSB⟩ := hSw
              obtain ⟨b0, b1, b2, b3, b4, b5, b6, b7, b8, b9⟩ := ten_cells hSB
              go_simp
              with_reducible rfl
            simp only [List.setIfInBounds_toArray, List.set_cons_zero, List.set_cons_succ]
            refine wpAnyH_ready (rs := [5]) (by kernel_rfl) (by simp) ?_
            refine AllReadyH.cons (o := _) rfl (fun K hK => ?_) AllReadyH.nil
            go_simp
            refine (nd_any10 m5 va vL vc s0).mono ?_
            rintro e s1 ⟨rfl, hb⟩
            have HX1 : Hid (Pl10 W s1 qa qb m5 m5 (.slice va vL vc) (.slice ub uM ud) ∧ m5.names.length ≤ 40 + (k + 1)) := ⟨HX0.out.1.later hb, HX0.out.2⟩
            clear hb HX0
            unfold kv
            simp only []
            refine hK.out _ _ ⟨HX1.out.1.mine.own.blk, HX1.out.1.ref⟩ (fun _ => ?_)
            clear hK K
            refine wpAnyH_ready (rs := [7]) (by kernel_rfl) (by simp) ?_
            refine AllReadyH.cons (o := _) rfl (fun K hK => ?_) AllReadyH.nil
            go_simp
            refine (refSame_any10 m5 m5 va ub vL vc uM ud s1 (Nm.of_row HX1.out.1.mine.own.row).ss HX1.out.1.nm.ss (by have := HX1.out.1.mine.fine.many; omega) (by have := HX1.out.1.mine.fine.many; omega)).mono ?_
            rintro e s2 ⟨R, rfl, hR, hb⟩
            obtain rfl : R = true := hR.2 rfl
            have HX2 : Hid (Pl10 W s2 qa qb m5 m5 (.slice va vL vc) (.slice ub uM ud) ∧ m5.names.length ≤ 40 + (k + 1)) := ⟨HX1.out.1.later hb, HX1.out.2⟩
            clear hb hR HX1
            simp only []
            refine hK.out _ _ ⟨HX2.out.1.mine.own.blk, HX2.out.1.ref⟩ (fun _ => ?_)
            clear hK K
            refine' take_at (i := 8) (d := 91) (v := _) rfl rfl (by kernel_rfl) (by kernel_rfl) (by kernel_rfl) (fun _ _ _ h => h) (Or.inl ⟨by rfl, ?h8⟩) (⟨HX2.out.1.mine.own.blk, HX2.out.1.ref⟩) ?_
            case h8 =>
              intro w hSw
              obtain ⟨hSA, hSB⟩ := hSw
              go_simp
              with_reducible rfl
            simp only [List.setIfInBounds_toArray, List.set_cons_zero, List.set_cons_succ]
            refine' take_at (i := 9) (d := 92) (v := _) rfl rfl (by kernel_rfl) (by kernel_rfl) (by kernel_rfl) (fun _ _ _ h => h) (Or.inl ⟨by rfl, ?h9⟩) (⟨HX2.out.1.mine.own.blk, HX2.out.1.ref⟩) ?_
            case h9 =>
              intro w hSw
              obtain ⟨hSA, hSB⟩ := hSw
              go_simp
              with_reducible rfl
            simp only [List.setIfInBounds_toArray, List.set_cons_zero, List.set_cons_succ]
            refine' take_at (i := 10) (d := 93) (v := _) rfl rfl (by kernel_rfl) (by kernel_rfl) (by kernel_rfl) (fun _ _ _ h => h) (Or.inl ⟨by rfl, ?h10⟩) (⟨HX2.out.1.mine.own.blk, HX2.out.1.ref⟩) ?_
            case h10 =>
              intro w hSw
              obtain ⟨hSA, hSB⟩ := hSw
              go_simp
              with_reducible rfl
            simp only [List.setIfInBounds_toArray, List.set_cons_zero, List.set_cons_succ]
            refine' take_at (i := 12) (d := 95) (v := _) rfl rfl (by kernel_rfl) (by kernel_rfl) (by kernel_rfl) (fun _ _ _ h => h) (Or.inl ⟨by rfl, ?h12⟩) (⟨HX2.out.1.mine.own.blk, HX2.out.1.ref⟩) ?_
            case h12 =>
              intro w hSw
              obtain ⟨hSA, hSB⟩ := hSw
              go_simp
              with_reducible rfl
            simp only [List.setIfInBounds_toArray, List.set_cons_zero, List.set_cons_succ]
            refine' take_at (i := 13) (d := 96) (v := _) rfl rfl (by kernel_rfl) (by kernel_rfl) (by kernel_rfl) (fun _ _ _ h => h) (Or.inl ⟨by rfl, ?h13⟩) (⟨HX2.out.1.mine.own.blk, HX2.out.1.ref⟩) ?_
            case h13 =>
              intro w hSw
              obtain ⟨hSA, hSB⟩ := hSw
              go_simp
              with_reducible rfl
            simp only [List.setIfInBounds_toArray, List.set_cons_zero, List.set_cons_succ]
            refine' take_at (i := 14) (d := 97) (v := _) rfl rfl (by kernel_rfl) (by kernel_rfl) (by kernel_rfl) (fun _ _ _ h => h) (Or.inl ⟨by rfl, ?h14⟩) (⟨HX2.out.1.mine.own.blk, HX2.out.1.ref⟩) ?_
            case h14 =>
              intro w hSw
              obtain ⟨hSA, hSB⟩ := hSw
              obtain ⟨b0, b1, b2, b3, b4, b5, b6, b7, b8, b9⟩ := ten_cells hSB
              go_simp
              with_reducible rfl
            simp only [List.setIfInBounds_toArray, List.set_cons_zero, List.set_cons_succ]
            refine' take_at (i := 15) (d := 98) (v := _) rfl rfl (by kernel_rfl) (by kernel_rfl) (by kernel_rfl) (fun _ _ _ h => h) (Or.inl ⟨by rfl, ?h15⟩) (⟨HX2.out.1.mine.own.blk, HX2.out.1.ref⟩) ?_
            case h15 =>
              intro w hSw
              obtain ⟨hSA, hSB⟩ := hSw
              go_simp
              with_reducible rfl
            simp only [List.setIfInBounds_toArray, List.set_cons_zero, List.set_cons_succ]
            refine wpAnyH_ready (rs := [11]) (by kernel_rfl) (by simp) ?_
            refine AllReadyH.cons (o := _) rfl (fun K hK => ?_) AllReadyH.nil
            go_simp
            refine (HS.out.eph qa m5 (.slice va vL vc) s2 HX2.out.1.mine.own.blk).mono ?_
            rintro e s3 ⟨rfl, hb⟩
            have HX3 : Hid (Pl10 W s3 qa qb m5 m5 (.slice va vL vc) (.slice ub uM ud) ∧ m5.names.length ≤ 40 + (k + 1)) := ⟨HX2.out.1.later hb, HX2.out.2⟩
            rw [← HE.out]
            clear hb HX2
            simp only []
            refine hK.out _ _ ⟨HX3.out.1.mine.own.blk, HX3.out.1.ref⟩ (fun _ => ?_)
            clear hK K
            refine' take_at (i := 16) (d := 99) (v := _) rfl rfl (by kernel_rfl) (by kernel_rfl) (by kernel_rfl) (fun _ _ _ h => h) (Or.inl ⟨by rfl, ?h16⟩) (⟨HX3.out.1.mine.own.blk, HX3.out.1.ref⟩) ?_
            case h16 =>
              intro w hSw
              obtain ⟨hSA, hSB⟩ := hSw
              go_simp
              with_reducible rfl
            simp only [List.setIfInBounds_toArray, List.set_cons_zero, List.set_cons_succ]
            refine' take_at (i := 17) (d := 100) (v := _) rfl rfl (by kernel_rfl) (by kernel_rfl) (by kernel_rfl) (fun _ _ _ h => h) (Or.inl ⟨by rfl, ?h17⟩) (⟨HX3.out.1.mine.own.blk, HX3.out.1.ref⟩) ?_
            case h17 =>
              intro w hSw
              obtain ⟨hSA, hSB⟩ := hSw
              go_simp
              with_reducible rfl
            simp only [List.setIfInBounds_toArray, List.set_cons_zero, List.set_cons_succ]
            refine wpAnyH_done (by kernel_rfl) ?_ _
            go_wp2
            go_roundw
            case rel => exact ⟨k + 1, m5, _, _, by omega, by go_num, HX3.out.1, HX3.out.2⟩
            case measure => simp [intOf]; omega
          · have e0 : (op == 0) = false := by simp [o0]
            have d0 : decide (op = 0) = false := decide_eq_false o0
            by_cases o1 : op = 1
            · subst o1
              obtain ⟨m5, hm5⟩ : ∃ z, z = Kq.add m xs := ⟨_, rfl⟩
              have HN5 : Hid (m5 = Kq.add m xs) := hm5
              have HM5 : Hid (m5.names.length ≤ 40 + (k + 1)) := by
                have e : m5.names.length ≤ 40 + (k + 1) := by rw [hm5]; have h1 := HM40.out; have h2 := Kq.len_add m xs; omega
                exact e
              clear hm5
              obtain ⟨t, ht⟩ : ∃ t, t = !Kq.has m.names xs := ⟨_, rfl⟩
              have HT : Hid (t = !Kq.has m.names xs) := ht
              clear ht
              have htt : (t != t) = false := by simp
              go_wp2_with fail
              refine (HA.out.1.mine.add HS.out xs (by omega) (by have := HM40.out; omega) t m5 HT.out.symm HN5.out.symm).mono ?_
              rintro e w5 ⟨v5, rfl, hM, hmv⟩
              have HB : Hid (Pl10 W w5 qa qb m5 m v5 u ∧ Cb w5 qx [.int .i64 1, .int .i64 xn, .string xs] 43) := ⟨HA.out.1.own hM hmv, HA.out.2.1.keep (hmv.block _ HA.out.2.1.lt HA.out.2.2)⟩
              have HFN : Hid (Fine10 m ∧ Kq.Rises m.names) := ⟨HA.out.1.mine.fine, HA.out.1.mine.own.rises⟩
              clear hM hmv x0 x1 x2 HA
              obtain ⟨ua1, uc1, hv⟩ := nm_form HB.out.1.nm
              obtain ⟨uL1, huL1⟩ : ∃ z, z = m.names.length := ⟨_, rfl⟩
              rw [← huL1] at hv
              subst hv
              clear huL1
              obtain ⟨b0, b1, b2, b3, b4, b5, b6, b7, b8, b9⟩ := ten_cells HB.out.1.ref
              have x1 : w5.cell? ⟨qx, 1, none⟩ = some (.int .i64 xn) := HB.out.2.cell 1
              have x2 : w5.cell? ⟨qx, 2, none⟩ = some (.string xs) := HB.out.2.cell 2
              go_wp2_with fail
              refine (refAdd_any m ua1 uL1 uc1 xs w5 HB.out.1.nm HFN.out.1 HFN.out.2).mono ?_
              rintro e w6 ⟨ub5, uM5, ud5, rfl, hn5, hwh, hb⟩
              rw [← HN5.out, ← HT.out]
              rw [← HN5.out] at hn5 hwh
              have HNN : Hid (Nm w6 (.slice ub5 uM5 ud5) m5.names ∧ (New10 w5 (.slice ub5 uM5 ud5) ∨ (Value.slice ub5 uM5 ud5 = .slice ua1 uL1 uc1 ∧ m5 = m))) := ⟨hn5, hwh⟩
              clear hn5 hwh
              have HD : Hid (Pl10 W w6 qa qb m5 m v5 (.slice ua1 uL1 uc1) ∧ Nm w6 (.slice ub5 uM5 ud5) m5.names ∧ (m5.names ≠ [] → ∀ k, (Value.slice ub5 uM5 ud5).ownBlock = some k → ¬ Fn qa v5 k ∧ k ≠ qb)) := by
                have h1 := HB.out.1.later hb
                refine ⟨h1, HNN.out.1, fun hne k hk => ?_⟩
                rcases HNN.out.2 with h2 | ⟨h2, h4⟩
                · have h3 := h2 k hk
                  exact ⟨fun e => by have := HB.out.1.mine.own.flt e; omega, fun e => by have := HB.out.1.ref.lt; omega⟩
                · rw [h2] at hk
                  rw [h4] at hne
                  exact h1.ap hne k hk
              clear hb x1 x2
              clear b0 b1 b2 b3 b4 b5 b6 b7 b8 b9
              have HZ : Hid (Pl10 W (put10 w6 qb m5 (.slice ub5 uM5 ud5)) qa qb m5 m5 v5 (.slice ub5 uM5 ud5) ∧ m5.names.length ≤ 40 + (k + 1)) := ⟨HD.out.1.put HD.out.2.1 HD.out.2.2, HM5.out⟩
              unfold put10 at HZ
              obtain ⟨b0, b1, b2, b3, b4, b5, b6, b7, b8, b9⟩ := ten_cells HD.out.1.ref
              have f0 := HD.out.1.ref.free 0
              have f1 := HD.out.1.ref.free 1
              have f2 := HD.out.1.ref.free 2
              have f3 := HD.out.1.ref.free 3
              have f4 := HD.out.1.ref.free 4
              have f5 := HD.out.1.ref.free 5
              have f6 := HD.out.1.ref.free 6
              have f7 := HD.out.1.ref.free 7
              have f8 := HD.out.1.ref.free 8
              have f9 := HD.out.1.ref.free 9
              unfold kv
              go_wp2_with fail
              clear HB HD
              clear b0 b1 b2 b3 b4 b5 b6 b7 b8 b9 f0 f1 f2 f3 f4 f5 f6 f7 f8 f9
              generalize ((((((((((w6.setCell ⟨qb, 0, none⟩ (.int .i64 m5.made)).setCell ⟨qb, 1, none⟩ (.int .i64 m5.changed)).setCell ⟨qb, 2, none⟩ (.int .i64 m5.ver)).setCell ⟨qb, 3, none⟩ (.int .i64 m5.kids)).setCell ⟨qb, 4, none⟩ (.int .i64 m5.owner)).setCell ⟨qb, 5, none⟩ (.int .i64 m5.len)).setCell ⟨qb, 6, none⟩ (.int .i64 m5.cnt)).setCell ⟨qb, 7, none⟩ (.string m5.data)).setCell ⟨qb, 8, none⟩ (.int .i64 m5.next)).setCell ⟨qb, 9, none⟩ (.slice ub5 uM5 ud5)) = wz at *
              generalize Value.slice ub5 uM5 ud5 = u5 at *
              obtain ⟨va, vc, hv⟩ := mine_row HZ.out.1.mine
              obtain ⟨vL, hvL⟩ : ∃ z, z = m5.names.length := ⟨_, rfl⟩
              rw [← hvL] at hv
              subst hv
              obtain ⟨ub, ud, hv⟩ := nm_form HZ.out.1.nm
              obtain ⟨uM, huM⟩ : ∃ z, z = m5.names.length := ⟨_, rfl⟩
              rw [← huM] at hv
              subst hv
              clear hvL huM
              obtain ⟨E, hE⟩ : ∃ E, E = decide (m5.owner ≠ 0) := ⟨_, rfl⟩
              have hE1 : (m5.owner != 0) = E := by rw [hE]; simp [bne, BEq.beq]
              have hE2 : (E != E) = false := by simp
              have HE : Hid (E = decide (m5.owner ≠ 0)) := hE
              clear hE
              refine wp_region_held_drew (S := fun w' => Cb w' qa (k10 m5 (.slice va vL vc)) 27 ∧ Cb w' qb (k10 m5 (.slice ub uM ud)) 40) (by kernel_rfl) ⟨HZ.out.1.mine.own.blk, HZ.out.1.ref⟩ (fun _ => ?_)
              have HX0 : Hid (Pl10 W wz.drew qa qb m5 m5 (.slice va vL vc) (.slice ub uM ud) ∧ m5.names.length ≤ 40 + (k + 1)) := ⟨HZ.out.1.later (Below.refl _ _).drew, HZ.out.2⟩
              clear HZ
              generalize wz.drew = s0 at *
              refine' take_at (i := 0) (d := 83) (v := _) rfl rfl (by kernel_rfl) (by kernel_rfl) (by kernel_rfl) (fun _ _ _ h => h) (Or.inl ⟨by rfl, ?h0⟩) (⟨HX0.out.1.mine.own.blk, HX0.out.1.ref⟩) ?_
              case h0 =>
                intro w hSw
                obtain ⟨hSA, hSB⟩ := hSw
                go_simp
                with_reducible rfl
              simp only [List.setIfInBounds_toArray, List.set_cons_zero, List.set_cons_succ]
              refine' take_at (i := 1) (d := 84) (v := _) rfl rfl (by kernel_rfl) (by kernel_rfl) (by kernel_rfl) (fun _ _ _ h => h) (Or.inl ⟨by rfl, ?h1⟩) (⟨HX0.out.1.mine.own.blk, HX0.out.1.ref⟩) ?_
              case h1 =>
                intro w hSw
                obtain ⟨hSA, hSB⟩ := hSw
                go_simp
                with_reducible rfl
              simp only [List.setIfInBounds_toArray, List.set_cons_zero, List.set_cons_succ]
              refine' take_at (i := 2) (d := 85) (v := _) rfl rfl (by kernel_rfl) (by kernel_rfl) (by kernel_rfl) (fun _ _ _ h => h) (Or.inl ⟨by rfl, ?h2⟩) (⟨HX0.out.1.mine.own.blk, HX0.out.1.ref⟩) ?_
              case h2 =>
                intro w hSw
                obtain ⟨hSA, hSB⟩ := hSw
                go_simp
                with_reducible rfl
              simp only [List.setIfInBounds_toArray, List.set_cons_zero, List.set_cons_succ]
              refine' take_at (i := 3) (d := 86) (v := _) rfl rfl (by kernel_rfl) (by kernel_rfl) (by kernel_rfl) (fun _ _ _ h => h) (Or.inl ⟨by rfl, ?h3⟩) (⟨HX0.out.1.mine.own.blk, HX0.out.1.ref⟩) ?_
              case h3 =>
                intro w hSw
                obtain ⟨hSA, hSB⟩ := hSw
                go_simp
                with_reducible rfl
              simp only [List.setIfInBounds_toArray, List.set_cons_zero, List.set_cons_succ]
              refine' take_at (i := 4) (d := 87) (v := _) rfl rfl (by kernel_rfl) (by kernel_rfl) (by kernel_rfl) (fun _ _ _ h => h) (Or.inl ⟨by rfl, ?h4⟩) (⟨HX0.out.1.mine.own.blk, HX0.out.1.ref⟩) ?_
              case h4 =>
                intro w hSw
                obtain ⟨hSA, hSB⟩ := hSw
                obtain ⟨a0, a1, a2, a3, a4, a5, a6, a7, a8, a9⟩ := ten_cells hSA
                go_simp
                with_reducible rfl
              simp only [List.setIfInBounds_toArray, List.set_cons_zero, List.set_cons_succ]
              refine' take_at (i := 6) (d := 89) (v := _) rfl rfl (by kernel_rfl) (by kernel_rfl) (by kernel_rfl) (fun _ _ _ h => h) (Or.inl ⟨by rfl, ?h6⟩) (⟨HX0.out.1.mine.own.blk, HX0.out.1.ref⟩) ?_
              case h6 =>
                intro w hSw
                obtain ⟨hSA, hSB⟩ := hSw
                obtain ⟨b0, b1, b2, b3, b4, b5, b6, b7, b8, b9⟩ := ten_cells hSB
                go_simp
                with_reducible rfl
              simp only [List.setIfInBounds_toArray, List.set_cons_zero, List.set_cons_succ]
              refine wpAnyH_ready (rs := [5]) (by kernel_rfl) (by simp) ?_
              refine AllReadyH.cons (o := _) rfl (fun K hK => ?_) AllReadyH.nil
              go_simp
              refine (nd_any10 m5 va vL vc s0).mono ?_
              rintro e s1 ⟨rfl, hb⟩
              have HX1 : Hid (Pl10 W s1 qa qb m5 m5 (.slice va vL vc) (.slice ub uM ud) ∧ m5.names.length ≤ 40 + (k + 1)) := ⟨HX0.out.1.later hb, HX0.out.2⟩
              clear hb HX0
              unfold kv
              simp only []
              refine hK.out _ _ ⟨HX1.out.1.mine.own.blk, HX1.out.1.ref⟩ (fun _ => ?_)
              clear hK K
              refine wpAnyH_ready (rs := [7]) (by kernel_rfl) (by simp) ?_
              refine AllReadyH.cons (o := _) rfl (fun K hK => ?_) AllReadyH.nil
              go_simp
              refine (refSame_any10 m5 m5 va ub vL vc uM ud s1 (Nm.of_row HX1.out.1.mine.own.row).ss HX1.out.1.nm.ss (by have := HX1.out.1.mine.fine.many; omega) (by have := HX1.out.1.mine.fine.many; omega)).mono ?_
              rintro e s2 ⟨R, rfl, hR, hb⟩
              obtain rfl : R = true := hR.2 rfl
              have HX2 : Hid (Pl10 W s2 qa qb m5 m5 (.slice va vL vc) (.slice ub uM ud) ∧ m5.names.length ≤ 40 + (k + 1)) := ⟨HX1.out.1.later hb, HX1.out.2⟩
              clear hb hR HX1
              simp only []
              refine hK.out _ _ ⟨HX2.out.1.mine.own.blk, HX2.out.1.ref⟩ (fun _ => ?_)
              clear hK K
              refine' take_at (i := 8) (d := 91) (v := _) rfl rfl (by kernel_rfl) (by kernel_rfl) (by kernel_rfl) (fun _ _ _ h => h) (Or.inl ⟨by rfl, ?h8⟩) (⟨HX2.out.1.mine.own.blk, HX2.out.1.ref⟩) ?_
              case h8 =>
                intro w hSw
                obtain ⟨hSA, hSB⟩ := hSw
                go_simp
                with_reducible rfl
              simp only [List.setIfInBounds_toArray, List.set_cons_zero, List.set_cons_succ]
              refine' take_at (i := 9) (d := 92) (v := _) rfl rfl (by kernel_rfl) (by kernel_rfl) (by kernel_rfl) (fun _ _ _ h => h) (Or.inl ⟨by rfl, ?h9⟩) (⟨HX2.out.1.mine.own.blk, HX2.out.1.ref⟩) ?_
              case h9 =>
                intro w hSw
                obtain ⟨hSA, hSB⟩ := hSw
                go_simp
                with_reducible rfl
              simp only [List.setIfInBounds_toArray, List.set_cons_zero, List.set_cons_succ]
              refine' take_at (i := 10) (d := 93) (v := _) rfl rfl (by kernel_rfl) (by kernel_rfl) (by kernel_rfl) (fun _ _ _ h => h) (Or.inl ⟨by rfl, ?h10⟩) (⟨HX2.out.1.mine.own.blk, HX2.out.1.ref⟩) ?_
              case h10 =>
                intro w hSw
                obtain ⟨hSA, hSB⟩ := hSw
                go_simp
                with_reducible rfl
              simp only [List.setIfInBounds_toArray, List.set_cons_zero, List.set_cons_succ]
              refine' take_at (i := 12) (d := 95) (v := _) rfl rfl (by kernel_rfl) (by kernel_rfl) (by kernel_rfl) (fun _ _ _ h => h) (Or.inl ⟨by rfl, ?h12⟩) (⟨HX2.out.1.mine.own.blk, HX2.out.1.ref⟩) ?_
              case h12 =>
                intro w hSw
                obtain ⟨hSA, hSB⟩ := hSw
                go_simp
                with_reducible rfl
              simp only [List.setIfInBounds_toArray, List.set_cons_zero, List.set_cons_succ]
              refine' take_at (i := 13) (d := 96) (v := _) rfl rfl (by kernel_rfl) (by kernel_rfl) (by kernel_rfl) (fun _ _ _ h => h) (Or.inl ⟨by rfl, ?h13⟩) (⟨HX2.out.1.mine.own.blk, HX2.out.1.ref⟩) ?_
              case h13 =>
                intro w hSw
                obtain ⟨hSA, hSB⟩ := hSw
                go_simp
                with_reducible rfl
              simp only [List.setIfInBounds_toArray, List.set_cons_zero, List.set_cons_succ]
              refine' take_at (i := 14) (d := 97) (v := _) rfl rfl (by kernel_rfl) (by kernel_rfl) (by kernel_rfl) (fun _ _ _ h => h) (Or.inl ⟨by rfl, ?h14⟩) (⟨HX2.out.1.mine.own.blk, HX2.out.1.ref⟩) ?_
              case h14 =>
                intro w hSw
                obtain ⟨hSA, hSB⟩ := hSw
                obtain ⟨b0, b1, b2, b3, b4, b5, b6, b7, b8, b9⟩ := ten_cells hSB
                go_simp
                with_reducible rfl
              simp only [List.setIfInBounds_toArray, List.set_cons_zero, List.set_cons_succ]
              refine' take_at (i := 15) (d := 98) (v := _) rfl rfl (by kernel_rfl) (by kernel_rfl) (by kernel_rfl) (fun _ _ _ h => h) (Or.inl ⟨by rfl, ?h15⟩) (⟨HX2.out.1.mine.own.blk, HX2.out.1.ref⟩) ?_
              case h15 =>
                intro w hSw
                obtain ⟨hSA, hSB⟩ := hSw
                go_simp
                with_reducible rfl
              simp only [List.setIfInBounds_toArray, List.set_cons_zero, List.set_cons_succ]
              refine wpAnyH_ready (rs := [11]) (by kernel_rfl) (by simp) ?_
              refine AllReadyH.cons (o := _) rfl (fun K hK => ?_) AllReadyH.nil
              go_simp
              refine (HS.out.eph qa m5 (.slice va vL vc) s2 HX2.out.1.mine.own.blk).mono ?_
              rintro e s3 ⟨rfl, hb⟩
              have HX3 : Hid (Pl10 W s3 qa qb m5 m5 (.slice va vL vc) (.slice ub uM ud) ∧ m5.names.length ≤ 40 + (k + 1)) := ⟨HX2.out.1.later hb, HX2.out.2⟩
              rw [← HE.out]
              clear hb HX2
              simp only []
              refine hK.out _ _ ⟨HX3.out.1.mine.own.blk, HX3.out.1.ref⟩ (fun _ => ?_)
              clear hK K
              refine' take_at (i := 16) (d := 99) (v := _) rfl rfl (by kernel_rfl) (by kernel_rfl) (by kernel_rfl) (fun _ _ _ h => h) (Or.inl ⟨by rfl, ?h16⟩) (⟨HX3.out.1.mine.own.blk, HX3.out.1.ref⟩) ?_
              case h16 =>
                intro w hSw
                obtain ⟨hSA, hSB⟩ := hSw
                go_simp
                with_reducible rfl
              simp only [List.setIfInBounds_toArray, List.set_cons_zero, List.set_cons_succ]
              refine' take_at (i := 17) (d := 100) (v := _) rfl rfl (by kernel_rfl) (by kernel_rfl) (by kernel_rfl) (fun _ _ _ h => h) (Or.inl ⟨by rfl, ?h17⟩) (⟨HX3.out.1.mine.own.blk, HX3.out.1.ref⟩) ?_
              case h17 =>
                intro w hSw
                obtain ⟨hSA, hSB⟩ := hSw
                go_simp
                with_reducible rfl
              simp only [List.setIfInBounds_toArray, List.set_cons_zero, List.set_cons_succ]
              refine wpAnyH_done (by kernel_rfl) ?_ _
              go_wp2
              go_roundw
              case rel => exact ⟨k + 1, m5, _, _, by omega, by go_num, HX3.out.1, HX3.out.2⟩
              case measure => simp [intOf]; omega
            · have e1 : (op == 1) = false := by simp [o1]
              have d1 : decide (op = 1) = false := decide_eq_false o1
              obtain ⟨m5, hm5⟩ : ∃ z, z = Kq.remove m xs := ⟨_, rfl⟩
              have HN5 : Hid (m5 = Kq.remove m xs) := hm5
              have HM5 : Hid (m5.names.length ≤ 40 + (k + 1)) := by
                have e : m5.names.length ≤ 40 + (k + 1) := by rw [hm5]; have h1 := HM40.out; have h2 := Kq.len_remove m xs; omega
                exact e
              clear hm5
              obtain ⟨t, ht⟩ : ∃ t, t = Kq.has m.names xs := ⟨_, rfl⟩
              have HT : Hid (t = Kq.has m.names xs) := ht
              clear ht
              have htt : (t != t) = false := by simp
              go_wp2_with fail
              refine (HA.out.1.mine.remove HS.out xs (by omega) t m5 HT.out.symm HN5.out.symm).mono ?_
              rintro e w5 ⟨v5, rfl, hM, hmv⟩
              have HB : Hid (Pl10 W w5 qa qb m5 m v5 u ∧ Cb w5 qx [.int .i64 op, .int .i64 xn, .string xs] 43) := ⟨HA.out.1.own hM hmv, HA.out.2.1.keep (hmv.block _ HA.out.2.1.lt HA.out.2.2)⟩
              have HFN : Hid (Fine10 m ∧ Kq.Rises m.names) := ⟨HA.out.1.mine.fine, HA.out.1.mine.own.rises⟩
              clear hM hmv x0 x1 x2 HA
              obtain ⟨ua1, uc1, hv⟩ := nm_form HB.out.1.nm
              obtain ⟨uL1, huL1⟩ : ∃ z, z = m.names.length := ⟨_, rfl⟩
              rw [← huL1] at hv
              subst hv
              clear huL1
              obtain ⟨b0, b1, b2, b3, b4, b5, b6, b7, b8, b9⟩ := ten_cells HB.out.1.ref
              have x1 : w5.cell? ⟨qx, 1, none⟩ = some (.int .i64 xn) := HB.out.2.cell 1
              have x2 : w5.cell? ⟨qx, 2, none⟩ = some (.string xs) := HB.out.2.cell 2
              go_wp2_with fail
              refine (refRemove_any m ua1 uL1 uc1 xs w5 HB.out.1.nm HFN.out.1 HFN.out.2).mono ?_
              rintro e w6 ⟨ub5, uM5, ud5, rfl, hn5, hwh, hb⟩
              rw [← HN5.out, ← HT.out]
              rw [← HN5.out] at hn5 hwh
              have HNN : Hid (Nm w6 (.slice ub5 uM5 ud5) m5.names ∧ (New10 w5 (.slice ub5 uM5 ud5) ∨ (Value.slice ub5 uM5 ud5 = .slice ua1 uL1 uc1 ∧ m5 = m))) := ⟨hn5, hwh⟩
              clear hn5 hwh
              have HD : Hid (Pl10 W w6 qa qb m5 m v5 (.slice ua1 uL1 uc1) ∧ Nm w6 (.slice ub5 uM5 ud5) m5.names ∧ (m5.names ≠ [] → ∀ k, (Value.slice ub5 uM5 ud5).ownBlock = some k → ¬ Fn qa v5 k ∧ k ≠ qb)) := by
                have h1 := HB.out.1.later hb
                refine ⟨h1, HNN.out.1, fun hne k hk => ?_⟩
                rcases HNN.out.2 with h2 | ⟨h2, h4⟩
                · have h3 := h2 k hk
                  exact ⟨fun e => by have := HB.out.1.mine.own.flt e; omega, fun e => by have := HB.out.1.ref.lt; omega⟩
                · rw [h2] at hk
                  rw [h4] at hne
                  exact h1.ap hne k hk
              clear hb x1 x2
              clear b0 b1 b2 b3 b4 b5 b6 b7 b8 b9
              have HZ : Hid (Pl10 W (put10 w6 qb m5 (.slice ub5 uM5 ud5)) qa qb m5 m5 v5 (.slice ub5 uM5 ud5) ∧ m5.names.length ≤ 40 + (k + 1)) := ⟨HD.out.1.put HD.out.2.1 HD.out.2.2, HM5.out⟩
              unfold put10 at HZ
              obtain ⟨b0, b1, b2, b3, b4, b5, b6, b7, b8, b9⟩ := ten_cells HD.out.1.ref
              have f0 := HD.out.1.ref.free 0
              have f1 := HD.out.1.ref.free 1
              have f2 := HD.out.1.ref.free 2
              have f3 := HD.out.1.ref.free 3
              have f4 := HD.out.1.ref.free 4
              have f5 := HD.out.1.ref.free 5
              have f6 := HD.out.1.ref.free 6
              have f7 := HD.out.1.ref.free 7
              have f8 := HD.out.1.ref.free 8
              have f9 := HD.out.1.ref.free 9
              unfold kv
              go_wp2_with fail
              clear HB HD
              clear b0 b1 b2 b3 b4 b5 b6 b7 b8 b9 f0 f1 f2 f3 f4 f5 f6 f7 f8 f9
              generalize ((((((((((w6.setCell ⟨qb, 0, none⟩ (.int .i64 m5.made)).setCell ⟨qb, 1, none⟩ (.int .i64 m5.changed)).setCell ⟨qb, 2, none⟩ (.int .i64 m5.ver)).setCell ⟨qb, 3, none⟩ (.int .i64 m5.kids)).setCell ⟨qb, 4, none⟩ (.int .i64 m5.owner)).setCell ⟨qb, 5, none⟩ (.int .i64 m5.len)).setCell ⟨qb, 6, none⟩ (.int .i64 m5.cnt)).setCell ⟨qb, 7, none⟩ (.string m5.data)).setCell ⟨qb, 8, none⟩ (.int .i64 m5.next)).setCell ⟨qb, 9, none⟩ (.slice ub5 uM5 ud5)) = wz at *
              generalize Value.slice ub5 uM5 ud5 = u5 at *
              obtain ⟨va, vc, hv⟩ := mine_row HZ.out.1.mine
              obtain ⟨vL, hvL⟩ : ∃ z, z = m5.names.length := ⟨_, rfl⟩
              rw [← hvL] at hv
              subst hv
              obtain ⟨ub, ud, hv⟩ := nm_form HZ.out.1.nm
              obtain ⟨uM, huM⟩ : ∃ z, z = m5.names.length := ⟨_, rfl⟩
              rw [← huM] at hv
              subst hv
              clear hvL huM
              obtain ⟨E, hE⟩ : ∃ E, E = decide (m5.owner ≠ 0) := ⟨_, rfl⟩
              have hE1 : (m5.owner != 0) = E := by rw [hE]; simp [bne, BEq.beq]
              have hE2 : (E != E) = false := by simp
              have HE : Hid (E = decide (m5.owner ≠ 0)) := hE
              clear hE
              refine wp_region_held_drew (S := fun w' => Cb w' qa (k10 m5 (.slice va vL vc)) 27 ∧ Cb w' qb (k10 m5 (.slice ub uM ud)) 40) (by kernel_rfl) ⟨HZ.out.1.mine.own.blk, HZ.out.1.ref⟩ (fun _ => ?_)
              have HX0 : Hid (Pl10 W wz.drew qa qb m5 m5 (.slice va vL vc) (.slice ub uM ud) ∧ m5.names.length ≤ 40 + (k + 1)) := ⟨HZ.out.1.later (Below.refl _ _).drew, HZ.out.2⟩
              clear HZ
              generalize wz.drew = s0 at *
              refine' take_at (i := 0) (d := 83) (v := _) rfl rfl (by kernel_rfl) (by kernel_rfl) (by kernel_rfl) (fun _ _ _ h => h) (Or.inl ⟨by rfl, ?h0⟩) (⟨HX0.out.1.mine.own.blk, HX0.out.1.ref⟩) ?_
              case h0 =>
                intro w hSw
                obtain ⟨hSA, hSB⟩ := hSw
                go_simp
                with_reducible rfl
              simp only [List.setIfInBounds_toArray, List.set_cons_zero, List.set_cons_succ]
              refine' take_at (i := 1) (d := 84) (v := _) rfl rfl (by kernel_rfl) (by kernel_rfl) (by kernel_rfl) (fun _ _ _ h => h) (Or.inl ⟨by rfl, ?h1⟩) (⟨HX0.out.1.mine.own.blk, HX0.out.1.ref⟩) ?_
              case h1 =>
                intro w hSw
                obtain ⟨hSA, hSB⟩ := hSw
                go_simp
                with_reducible rfl
              simp only [List.setIfInBounds_toArray, List.set_cons_zero, List.set_cons_succ]
              refine' take_at (i := 2) (d := 85) (v := _) rfl rfl (by kernel_rfl) (by kernel_rfl) (by kernel_rfl) (fun _ _ _ h => h) (Or.inl ⟨by rfl, ?h2⟩) (⟨HX0.out.1.mine.own.blk, HX0.out.1.ref⟩) ?_
              case h2 =>
                intro w hSw
                obtain ⟨hSA, hSB⟩ := hSw
                go_simp
                with_reducible rfl
              simp only [List.setIfInBounds_toArray, List.set_cons_zero, List.set_cons_succ]
              refine' take_at (i := 3) (d := 86) (v := _) rfl rfl (by kernel_rfl) (by kernel_rfl) (by kernel_rfl) (fun _ _ _ h => h) (Or.inl ⟨by rfl, ?h3⟩) (⟨HX0.out.1.mine.own.blk, HX0.out.1.ref⟩) ?_
              case h3 =>
                intro w hSw
                obtain ⟨hSA, hSB⟩ := hSw
                go_simp
                with_reducible rfl
              simp only [List.setIfInBounds_toArray, List.set_cons_zero, List.set_cons_succ]
              refine' take_at (i := 4) (d := 87) (v := _) rfl rfl (by kernel_rfl) (by kernel_rfl) (by kernel_rfl) (fun _ _ _ h => h) (Or.inl ⟨by rfl, ?h4⟩) (⟨HX0.out.1.mine.own.blk, HX0.out.1.ref⟩) ?_
              case h4 =>
                intro w hSw
                obtain ⟨hSA, hSB⟩ := hSw
                obtain ⟨a0, a1, a2, a3, a4, a5, a6, a7, a8, a9⟩ := ten_cells hSA
                go_simp
                with_reducible rfl
              simp only [List.setIfInBounds_toArray, List.set_cons_zero, List.set_cons_succ]
              refine' take_at (i := 6) (d := 89) (v := _) rfl rfl (by kernel_rfl) (by kernel_rfl) (by kernel_rfl) (fun _ _ _ h => h) (Or.inl ⟨by rfl, ?h6⟩) (⟨HX0.out.1.mine.own.blk, HX0.out.1.ref⟩) ?_
              case h6 =>
                intro w hSw
                obtain ⟨hSA, hSB⟩ := hSw
                obtain ⟨b0, b1, b2, b3, b4, b5, b6, b7, b8, b9⟩ := ten_cells hSB
                go_simp
                with_reducible rfl
              simp only [List.setIfInBounds_toArray, List.set_cons_zero, List.set_cons_succ]
              refine wpAnyH_ready (rs := [5]) (by kernel_rfl) (by simp) ?_
              refine AllReadyH.cons (o := _) rfl (fun K hK => ?_) AllReadyH.nil
              go_simp
              refine (nd_any10 m5 va vL vc s0).mono ?_
              rintro e s1 ⟨rfl, hb⟩
              have HX1 : Hid (Pl10 W s1 qa qb m5 m5 (.slice va vL vc) (.slice ub uM ud) ∧ m5.names.length ≤ 40 + (k + 1)) := ⟨HX0.out.1.later hb, HX0.out.2⟩
              clear hb HX0
              unfold kv
              simp only []
              refine hK.out _ _ ⟨HX1.out.1.mine.own.blk, HX1.out.1.ref⟩ (fun _ => ?_)
              clear hK K
              refine wpAnyH_ready (rs := [7]) (by kernel_rfl) (by simp) ?_
              refine AllReadyH.cons (o := _) rfl (fun K hK => ?_) AllReadyH.nil
              go_simp
              refine (refSame_any10 m5 m5 va ub vL vc uM ud s1 (Nm.of_row HX1.out.1.mine.own.row).ss HX1.out.1.nm.ss (by have := HX1.out.1.mine.fine.many; omega) (by have := HX1.out.1.mine.fine.many; omega)).mono ?_
              rintro e s2 ⟨R, rfl, hR, hb⟩
              obtain rfl : R = true := hR.2 rfl
              have HX2 : Hid (Pl10 W s2 qa qb m5 m5 (.slice va vL vc) (.slice ub uM ud) ∧ m5.names.length ≤ 40 + (k + 1)) := ⟨HX1.out.1.later hb, HX1.out.2⟩
              clear hb hR HX1
              simp only []
              refine hK.out _ _ ⟨HX2.out.1.mine.own.blk, HX2.out.1.ref⟩ (fun _ => ?_)
              clear hK K
              refine' take_at (i := 8) (d := 91) (v := _) rfl rfl (by kernel_rfl) (by kernel_rfl) (by kernel_rfl) (fun _ _ _ h => h) (Or.inl ⟨by rfl, ?h8⟩) (⟨HX2.out.1.mine.own.blk, HX2.out.1.ref⟩) ?_
              case h8 =>
                intro w hSw
                obtain ⟨hSA, hSB⟩ := hSw
                go_simp
                with_reducible rfl
              simp only [List.setIfInBounds_toArray, List.set_cons_zero, List.set_cons_succ]
              refine' take_at (i := 9) (d := 92) (v := _) rfl rfl (by kernel_rfl) (by kernel_rfl) (by kernel_rfl) (fun _ _ _ h => h) (Or.inl ⟨by rfl, ?h9⟩) (⟨HX2.out.1.mine.own.blk, HX2.out.1.ref⟩) ?_
              case h9 =>
                intro w hSw
                obtain ⟨hSA, hSB⟩ := hSw
                go_simp
                with_reducible rfl
              simp only [List.setIfInBounds_toArray, List.set_cons_zero, List.set_cons_succ]
              refine' take_at (i := 10) (d := 93) (v := _) rfl rfl (by kernel_rfl) (by kernel_rfl) (by kernel_rfl) (fun _ _ _ h => h) (Or.inl ⟨by rfl, ?h10⟩) (⟨HX2.out.1.mine.own.blk, HX2.out.1.ref⟩) ?_
              case h10 =>
                intro w hSw
                obtain ⟨hSA, hSB⟩ := hSw
                go_simp
                with_reducible rfl
              simp only [List.setIfInBounds_toArray, List.set_cons_zero, List.set_cons_succ]
              refine' take_at (i := 12) (d := 95) (v := _) rfl rfl (by kernel_rfl) (by kernel_rfl) (by kernel_rfl) (fun _ _ _ h => h) (Or.inl ⟨by rfl, ?h12⟩) (⟨HX2.out.1.mine.own.blk, HX2.out.1.ref⟩) ?_
              case h12 =>
                intro w hSw
                obtain ⟨hSA, hSB⟩ := hSw
                go_simp
                with_reducible rfl
              simp only [List.setIfInBounds_toArray, List.set_cons_zero, List.set_cons_succ]
              refine' take_at (i := 13) (d := 96) (v := _) rfl rfl (by kernel_rfl) (by kernel_rfl) (by kernel_rfl) (fun _ _ _ h => h) (Or.inl ⟨by rfl, ?h13⟩) (⟨HX2.out.1.mine.own.blk, HX2.out.1.ref⟩) ?_
              case h13 =>
                intro w hSw
                obtain ⟨hSA, hSB⟩ := hSw
                go_simp
                with_reducible rfl
              simp only [List.setIfInBounds_toArray, List.set_cons_zero, List.set_cons_succ]
              refine' take_at (i := 14) (d := 97) (v := _) rfl rfl (by kernel_rfl) (by kernel_rfl) (by kernel_rfl) (fun _ _ _ h => h) (Or.inl ⟨by rfl, ?h14⟩) (⟨HX2.out.1.mine.own.blk, HX2.out.1.ref⟩) ?_
              case h14 =>
                intro w hSw
                obtain ⟨hSA, hSB⟩ := hSw
                obtain ⟨b0, b1, b2, b3, b4, b5, b6, b7, b8, b9⟩ := ten_cells hSB
                go_simp
                with_reducible rfl
              simp only [List.setIfInBounds_toArray, List.set_cons_zero, List.set_cons_succ]
              refine' take_at (i := 15) (d := 98) (v := _) rfl rfl (by kernel_rfl) (by kernel_rfl) (by kernel_rfl) (fun _ _ _ h => h) (Or.inl ⟨by rfl, ?h15⟩) (⟨HX2.out.1.mine.own.blk, HX2.out.1.ref⟩) ?_
              case h15 =>
                intro w hSw
                obtain ⟨hSA, hSB⟩ := hSw
                go_simp
                with_reducible rfl
              simp only [List.setIfInBounds_toArray, List.set_cons_zero, List.set_cons_succ]
              refine wpAnyH_ready (rs := [11]) (by kernel_rfl) (by simp) ?_
              refine AllReadyH.cons (o := _) rfl (fun K hK => ?_) AllReadyH.nil
              go_simp
              refine (HS.out.eph qa m5 (.slice va vL vc) s2 HX2.out.1.mine.own.blk).mono ?_
              rintro e s3 ⟨rfl, hb⟩
              have HX3 : Hid (Pl10 W s3 qa qb m5 m5 (.slice va vL vc) (.slice ub uM ud) ∧ m5.names.length ≤ 40 + (k + 1)) := ⟨HX2.out.1.later hb, HX2.out.2⟩
              rw [← HE.out]
              clear hb HX2
              simp only []
              refine hK.out _ _ ⟨HX3.out.1.mine.own.blk, HX3.out.1.ref⟩ (fun _ => ?_)
              clear hK K
              refine' take_at (i := 16) (d := 99) (v := _) rfl rfl (by kernel_rfl) (by kernel_rfl) (by kernel_rfl) (fun _ _ _ h => h) (Or.inl ⟨by rfl, ?h16⟩) (⟨HX3.out.1.mine.own.blk, HX3.out.1.ref⟩) ?_
              case h16 =>
                intro w hSw
                obtain ⟨hSA, hSB⟩ := hSw
                go_simp
                with_reducible rfl
              simp only [List.setIfInBounds_toArray, List.set_cons_zero, List.set_cons_succ]
              refine' take_at (i := 17) (d := 100) (v := _) rfl rfl (by kernel_rfl) (by kernel_rfl) (by kernel_rfl) (fun _ _ _ h => h) (Or.inl ⟨by rfl, ?h17⟩) (⟨HX3.out.1.mine.own.blk, HX3.out.1.ref⟩) ?_
              case h17 =>
                intro w hSw
                obtain ⟨hSA, hSB⟩ := hSw
                go_simp
                with_reducible rfl
              simp only [List.setIfInBounds_toArray, List.set_cons_zero, List.set_cons_succ]
              refine wpAnyH_done (by kernel_rfl) ?_ _
              go_wp2
              go_roundw
              case rel => exact ⟨k + 1, m5, _, _, by omega, by go_num, HX3.out.1, HX3.out.2⟩
              case measure => simp [intOf]; omega
        · have hlt' : ¬ (k : Int) < (N : Int) := by omega
          go_wp2
          go_ret
          exact ⟨rfl, HP.out.1.mine.below⟩
end Go.Proofs.Ytlgpjgncimcijaa
