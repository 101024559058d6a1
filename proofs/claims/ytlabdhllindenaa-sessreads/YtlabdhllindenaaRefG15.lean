/- The reference's GetSessions. -/
import Derived.Test.YtlabdhllindenaaRefU15
import Derived.Test.YtlabdhllindenaaWRead15
namespace Go.Proofs.Ytlabdhllindenaa
open Go.RowKit

/-- Sessions that the reference reads: its Reader, and what was read, in blocks above the Reader's. -/
structure Gr15 (w0 w : World) (r : Nat) (vb : Value) (b ys : List UInt8) (bad : Bool) (q : Nat) (s : Sq.St) (v : Value) : Prop where
  rf : Pw.Rf w r vb b ys bad
  lo : w0.heap.size ≤ r
  vlo : 0 < b.length → ∀ k, vb.ownBlock = some k → k < w0.heap.size
  se : Rs15 w q s v
  hi : ∀ k, Fs15 v q k → r < k
  below : Below w0.heap.size w0 w
theorem Rf.lt15 {w : World} {q : Nat} {v : Value} {xs ys : List UInt8} {bad : Bool} (h : Pw.Rf w q v xs ys bad) : q < w.heap.size := World.block_lt_of_cell? w ⟨q, 2, none⟩ h.c2
section
variable {w0 w w' : World} {r q : Nat} {vb v : Value} {b ys zs : List UInt8} {bad bad' : Bool} {s : Sq.St}
theorem Rf.on15 (h : Pw.Rf w r vb b ys bad) (hlo : w0.heap.size ≤ r) (hv : 0 < b.length → ∀ k, vb.ownBlock = some k → k < w0.heap.size) {k : Nat} (hg : w.grownBy w' (some k)) (hk : r < k) : Pw.Rf w' r vb b ys bad :=
  h.grown hg (by omega) (fun h0 e => by have := hv h0 k e; omega)
theorem Gr15.later (h : Gr15 w0 w r vb b ys bad q s v) (hb : Below w.heap.size w w') : Gr15 w0 w' r vb b ys bad q s v :=
  ⟨Rf.on15 h.rf h.lo h.vlo (grownBy_below (row := some w.heap.size) hb) (Rf.lt15 h.rf), h.lo, h.vlo, h.se.later hb, h.hi, h.below.trans (hb.mono h.below.size)⟩
theorem Gr15.read (h : Gr15 w0 w r vb b ys bad q s v) (hr : Pw.Rf w' r vb b zs bad') (hg : w.grownBy w' (some r)) : Gr15 w0 w' r vb b zs bad' q s v := by
  have hk : ∀ k, Fs15 v q k → k < w.heap.size → w'.heap[k]? = w.heap[k]? := fun k hk hl => hg.block k hl (fun e => by have := h.hi k hk; simp at e; omega)
  exact ⟨hr, h.lo, h.vlo, ⟨h.se.blk.keep (hk q (Or.inr rfl) h.se.blk.lt), row_stays h.se.row fun k e => hk k (Or.inl e) (h.se.row.lt k e).2⟩, h.hi, Below.reader h.below hg (Nat.le_refl _) h.lo⟩
end
def GrP (w : World) (o : Option Sq.St) (e : Ending) (w' : World) : Prop := Below w.heap.size w w' ∧ (o = none → ∃ p, e = .returned (.tuple #[p, .bool false])) ∧ ∀ s, o = some s → ∃ q F, e = .returned (.tuple #[dptr q, .bool true]) ∧ LRe w' q s F ∧ ∀ k, F k → w.heap.size ≤ k
theorem GrP.no {w w' : World} {o : Option Sq.St} (p : Value) (h : o = none) (hb : Below w.heap.size w w') : GrP w o (.returned (.tuple #[p, .bool false])) w' := ⟨hb, fun _ => ⟨p, rfl⟩, fun s e => by rw [h] at e; cases e⟩
set_option maxRecDepth 20000 in
set_option maxHeartbeats 8000000 in
theorem refGet_walk15 (vb : Value) (b : List UInt8) (w : World) (hb : Bs w vb b) (hl : b.length ≤ 2000) :
    Calls Try.prog 29 #[vb] w fun e w' => GrP w (Sq.get b) e w' := by
  have H0 : Hid (Bs w vb b ∧ b.length ≤ 2000) := ⟨hb, hl⟩
  obtain ⟨ao, n, cc, rfl, hn9, hs9⟩ := hb
  clear hn9 hs9
  go_enter Try.func29, Try.ntmps29
  go_upto_region 2 with fail
  obtain ⟨r, hr⟩ : ∃ z, z = w.heap.size := ⟨_, rfl⟩
  have H1 : Hid (Pw.Rf (w.alloc (.cells #[.slice ao n cc, .int .i64 0, .bool false] 73)) r (.slice ao n cc) b b false ∧ Below w.heap.size w (w.alloc (.cells #[.slice ao n cc, .int .i64 0, .bool false] 73)) ∧ w.heap.size ≤ r ∧ (0 < b.length → ∀ k, (Value.slice ao n cc).ownBlock = some k → k < w.heap.size)) := by
    have hbl := (Below.refl _ w).alloc (Nat.le_refl _) (.cells #[.slice ao n cc, .int .i64 0, .bool false] 73)
    have hvl : 0 < b.length → ∀ k, (Value.slice ao n cc).ownBlock = some k → k < w.heap.size := fun h0 k hk => by
      obtain ⟨g, o, n', c', e, _, _, hc⟩ := H0.out.1.plain h0
      rw [e] at hk
      simp only [Value.ownBlock, Option.some.injEq] at hk
      subst hk
      exact World.block_lt_of_cell? w _ (hc 0 _ (List.getElem?_eq_getElem h0))
    have hcb : Cb (w.alloc (.cells #[.slice ao n cc, .int .i64 0, .bool false] 73)) w.heap.size [.slice ao n cc, .int .i64 0, .bool false] 73 := Cb.made w _ _
    rw [hr]
    exact ⟨⟨⟨0, hcb.cell 1, Nat.zero_le _, fun _ => by simp⟩, hcb.cell 0, hcb.cell 2, hcb.free 1, hcb.free 2, H0.out.1.below hbl, fun h0 e => (by have := hvl h0 _ e; omega), fun h => (by cases h), (by have := H0.out.2; omega)⟩, hbl, Nat.le_refl _, hvl⟩
  rw [← hr]
  clear hr
  generalize (w.alloc (.cells #[.slice ao n cc, .int .i64 0, .bool false] 73)) = w1 at *
  obtain ⟨c, hc⟩ : ∃ c, c = Pk.rC 64 b false := ⟨_, rfl⟩
  obtain ⟨nn, hnn⟩ : ∃ n, n = Pk.rI c.2.1 c.2.2 := ⟨_, rfl⟩
  obtain ⟨kk, hkk⟩ : ∃ n, n = Pk.rI nn.2.1 nn.2.2 := ⟨_, rfl⟩
  obtain ⟨cl, hcl⟩ : ∃ n, n = Pk.rC 64 kk.2.1 kk.2.2 := ⟨_, rfl⟩
  have HN : Hid (c = Pk.rC 64 b false ∧ nn = Pk.rI c.2.1 c.2.2 ∧ kk = Pk.rI nn.2.1 nn.2.2 ∧ cl = Pk.rC 64 kk.2.1 kk.2.2) := ⟨hc, hnn, hkk, hcl⟩
  clear hc hnn hkk hcl
  go_wp2_with fail
  refine (Pw.fCount_any r 64 _ b b false w1 H1.out.1).mono ?_
  rintro e w2 ⟨rfl, hrd, hg⟩
  rw [← HN.out.1] at hrd ⊢
  have H2 : Hid (Pw.Rf w2 r (.slice ao n cc) b c.2.1 c.2.2 ∧ Below w.heap.size w w2) := ⟨hrd, Below.reader H1.out.2.1 hg (Nat.le_refl _) H1.out.2.2.1⟩
  clear hrd hg
  obtain ⟨z, hz⟩ : ∃ z, z = c.1 := ⟨_, rfl⟩
  rw [← hz]
  have HZ : Hid (z = c.1) := hz
  clear hz
  go_wp2_with fail
  refine (Pw.fI64_any r _ b c.2.1 c.2.2 w2 H2.out.1).mono ?_
  rintro e w3 ⟨rfl, hrd, hg⟩
  rw [← HN.out.2.1] at hrd ⊢
  have H3 : Hid (Pw.Rf w3 r (.slice ao n cc) b nn.2.1 nn.2.2 ∧ Below w.heap.size w w3) := ⟨hrd, Below.reader H2.out.2 hg (Nat.le_refl _) H1.out.2.2.1⟩
  clear hrd hg H2
  obtain ⟨z1, hz1⟩ : ∃ z, z = nn.1 := ⟨_, rfl⟩
  rw [← hz1]
  have HZ1 : Hid (z1 = nn.1) := hz1
  clear hz1
  go_wp2_with fail
  refine (Pw.fI64_any r _ b nn.2.1 nn.2.2 w3 H3.out.1).mono ?_
  rintro e w4 ⟨rfl, hrd, hg⟩
  rw [← HN.out.2.2.1] at hrd ⊢
  have H4 : Hid (Pw.Rf w4 r (.slice ao n cc) b kk.2.1 kk.2.2 ∧ Below w.heap.size w w4) := ⟨hrd, Below.reader H3.out.2 hg (Nat.le_refl _) H1.out.2.2.1⟩
  clear hrd hg H3
  obtain ⟨z2, hz2⟩ : ∃ z, z = kk.1 := ⟨_, rfl⟩
  rw [← hz2]
  have HZ2 : Hid (z2 = kk.1) := hz2
  clear hz2
  obtain ⟨q, hq⟩ : ∃ z, z = w4.heap.size := ⟨_, rfl⟩
  have H5 : Hid (Gr15 w (w4.alloc (.cells #[.int .i64 z, .int .i64 z1, .int .i64 z2, .slice none 0 0] 38)) r (.slice ao n cc) b kk.2.1 kk.2.2 q ⟨z, z1, z2, []⟩ (.slice none 0 0)) := by
    have hbl := (Below.refl _ w4).alloc (Nat.le_refl _) (.cells #[.int .i64 z, .int .i64 z1, .int .i64 z2, .slice none 0 0] 38)
    rw [hq]
    refine ⟨Rf.on15 H4.out.1 H1.out.2.2.1 H1.out.2.2.2 (grownBy_below (row := some w4.heap.size) hbl) (Rf.lt15 H4.out.1), H1.out.2.2.1, H1.out.2.2.2, ⟨Cb.made w4 [.int .i64 z, .int .i64 z1, .int .i64 z2, .slice none 0 0] _, World.ownsRow_nil _ _ _ _⟩, fun k hk => ?_, H4.out.2.trans (hbl.mono H4.out.2.size)⟩
    rcases hk with hk | rfl
    · cases hk
    · exact Rf.lt15 H4.out.1
  go_wp2_with fail
  rw [← hq]
  clear hq H4 H1
  generalize (w4.alloc (.cells #[.int .i64 z, .int .i64 z1, .int .i64 z2, .slice none 0 0] 38)) = w5 at *
  refine (Pw.fCount_any r 64 _ b kk.2.1 kk.2.2 w5 H5.out.rf).mono ?_
  rintro e w6 ⟨rfl, hrd, hg⟩
  rw [← HN.out.2.2.2] at hrd ⊢
  have H6 : Hid (Gr15 w w6 r (.slice ao n cc) b cl.2.1 cl.2.2 q ⟨z, z1, z2, []⟩ (.slice none 0 0)) := H5.out.read hrd hg
  clear hrd hg H5
  have hcn := Pk.rC_nonneg 64 kk.2.1 kk.2.2
  rw [← HN.out.2.2.2] at hcn
  obtain ⟨K, hK⟩ : ∃ K : Nat, cl.1 = (K : Int) := ⟨cl.1.toNat, by omega⟩
  rw [hK]
  have HK : Hid (cl.1 = (K : Int)) := hK
  clear hcn hK
  have d0 : w6.cell? ⟨q, 0, none⟩ = some (.int .i64 z) := H6.out.se.blk.cell 0
  have d1 : w6.cell? ⟨q, 1, none⟩ = some (.int .i64 z1) := H6.out.se.blk.cell 1
  have d2 : w6.cell? ⟨q, 2, none⟩ = some (.int .i64 z2) := H6.out.se.blk.cell 2
  have HGE : Hid (¬ z < 1 → Sq.get b = Sq.get4 z z1 z2 kk.2.1 kk.2.2) := fun h1 => by
    unfold Sq.get
    rw [← HN.out.1, ← HZ.out, if_neg h1, ← HN.out.2.1, ← HN.out.2.2.1, ← HZ1.out, ← HZ2.out]
  by_cases b1 : z < 1
  · have HNO : Hid (Sq.get b = none) := (show Sq.get b = none by
      unfold Sq.get
      rw [← HN.out.1, ← HZ.out, if_pos b1])
    go_wp2
    go_ret2
    exact GrP.no _ HNO.out H6.out.below
  have HG4 : Hid (Sq.get b = Sq.get4 z z1 z2 kk.2.1 kk.2.2) := HGE.out b1
  have HZB : Hid (1 ≤ z ∧ z ≤ 64) := ⟨by omega, by
    rw [HZ.out, HN.out.1]
    unfold Pk.rC
    split
    · decide
    · omega⟩
  clear HGE
  by_cases b2 : z1 < 0
  · have HNO : Hid (Sq.get b = none) := (show Sq.get b = none by
      rw [HG4.out, Sq.get4, if_neg]
      intro e
      have := Sq.clockB_iff.1 e
      omega)
    go_wp2
    go_ret2
    exact GrP.no _ HNO.out H6.out.below
  by_cases b3 : 1099511627776 < z1
  · have HNO : Hid (Sq.get b = none) := (show Sq.get b = none by
      rw [HG4.out, Sq.get4, if_neg]
      intro e
      have := Sq.clockB_iff.1 e
      omega)
    go_wp2
    go_ret2
    exact GrP.no _ HNO.out H6.out.below
  by_cases b4 : z2 < 1
  · have HNO : Hid (Sq.get b = none) := (show Sq.get b = none by
      rw [HG4.out, Sq.get4, if_neg]
      intro e
      have := Sq.clockB_iff.1 e
      omega)
    go_wp2
    go_ret2
    exact GrP.no _ HNO.out H6.out.below
  by_cases b5 : 1099511627776 < z2
  · have HNO : Hid (Sq.get b = none) := (show Sq.get b = none by
      rw [HG4.out, Sq.get4, if_neg]
      intro e
      have := Sq.clockB_iff.1 e
      omega)
    go_wp2
    go_ret2
    exact GrP.no _ HNO.out H6.out.below
  by_cases b6 : z < (K : Int)
  · have HNO : Hid (Sq.get b = none) := (show Sq.get b = none by
      rw [HG4.out]
      exact Sq.get4_no (by rw [← HN.out.2.2.2, HK.out]; exact b6))
    go_wp2
    go_ret2
    exact GrP.no _ HNO.out H6.out.below
  have HG : Hid (Sq.get b = Sq.fin z z1 z2 (Sq.rdL z1 z2 K [] 0 cl.2.1 cl.2.2)) := (show Sq.get b = Sq.fin z z1 z2 (Sq.rdL z1 z2 K [] 0 cl.2.1 cl.2.2) by
    have e : Pk.rC z kk.2.1 kk.2.2 = cl := by
      rw [HN.out.2.2.2]
      exact (Sq.rC_64 HZB.out.1 HZB.out.2 (by rw [← HN.out.2.2.2, HK.out]; omega)).symm
    rw [HG4.out, Sq.get4, if_pos (Sq.clockB_iff.2 ⟨by omega, by omega, by omega, by omega⟩), e, HK.out]
    rfl)
  have HCK : Hid (0 ≤ z1 ∧ z1 ≤ 1099511627776 ∧ K ≤ 64) := ⟨by omega, by omega, by have := HZB.out; omega⟩
  clear d0 d1 d2 HG4
  have d0 : w6.cell? ⟨q, 0, none⟩ = some (.int .i64 z) := H6.out.se.blk.cell 0
  have d1 : w6.cell? ⟨q, 1, none⟩ = some (.int .i64 z1) := H6.out.se.blk.cell 1
  have d2 : w6.cell? ⟨q, 2, none⟩ = some (.int .i64 z2) := H6.out.se.blk.cell 2
  go_wp2
  clear d0 d1 d2
  go_loopw [7, 8] (fun u i wx => ∃ (k : Nat) (acc : List Sq.One) (last : Int) (ys : List UInt8) (bd : Bool) (v' : Value), k ≤ K ∧ i = .int .i64 (k : Int) ∧ u = .int .i64 last ∧ 0 ≤ last ∧ acc.length = k ∧ Gr15 w wx r (.slice ao n cc) b ys bd q ⟨z, z1, z2, acc⟩ v' ∧ Sq.rdL z1 z2 K [] 0 cl.2.1 cl.2.2 = Sq.rdL z1 z2 (K - k) acc last ys bd) (fun _ i _ => K - (intOf i).toNat)
  case atStart => exact ⟨0, [], 0, _, _, _, Nat.zero_le _, rfl, rfl, Int.le_refl 0, rfl, H6.out, rfl⟩
  case round =>
    obtain ⟨k, acc, last, ys, bd, v', hk, rfl, rfl, hla, hac, hG9, hT⟩ := hrel
    have H7 : Hid (Gr15 w wr r (.slice ao n cc) b ys bd q ⟨z, z1, z2, acc⟩ v' ∧ acc.length = k ∧ 0 ≤ last ∧ Sq.rdL z1 z2 K [] 0 cl.2.1 cl.2.2 = Sq.rdL z1 z2 (K - k) acc last ys bd) := ⟨hG9, hac, hla, hT⟩
    clear hG9 hac hla hT H6
    have rb : wr.cell? ⟨r, 2, none⟩ = some (.bool bd) := H7.out.1.rf.c2
    by_cases hlt : k < K
    · have hlt' : (k : Int) < (K : Int) := by omega
      have hwk : IntKind.wrap .i64 ((k : Int) + 1) = (k : Int) + 1 := by have := HCK.out; rw [IntKind.wrap_i64]; omega
      cases bd with
      | true =>
        have HNO : Hid (Sq.get b = none) := (show Sq.get b = none by
          have h := H7.out.2.2.2
          rw [H7.out.1.rf.sad rfl, show K - k = K - (k + 1) + 1 by omega, Sq.rdL_sad H7.out.2.2.1] at h
          rw [HG.out, h]
          rfl)
        go_wp2_with fail
        refine (Pw.fEnd_any r _ b ys true wr H7.out.1.rf).mono ?_
        rintro e wE ⟨rfl, nE, hwE⟩
        have HE : Hid (Below w.heap.size w wE) := by rw [hwE]; exact below_drewN H7.out.1.below _
        have HLE : Hid (Rs15 wE q ⟨z, z1, z2, acc⟩ v') := by rw [hwE]; exact H7.out.1.se.later (below_drewN (Below.refl _ _) _)
        clear hwE
        simp only [Bool.not_true, Bool.false_and]
        go_wp2
        go_ret2
        exact GrP.no _ HNO.out HE.out
      | false =>
        obtain ⟨n1, hn1⟩ : ∃ n, n = Pk.rI ys false := ⟨_, rfl⟩
        obtain ⟨n2, hn2⟩ : ∃ n, n = Pk.rI n1.2.1 n1.2.2 := ⟨_, rfl⟩
        obtain ⟨n3, hn3⟩ : ∃ n, n = Pk.rI n2.2.1 n2.2.2 := ⟨_, rfl⟩
        obtain ⟨x, hx⟩ : ∃ x : Sq.One, x = ⟨n1.1, n2.1, n3.1⟩ := ⟨_, rfl⟩
        have HX : Hid (n1 = Pk.rI ys false ∧ n2 = Pk.rI n1.2.1 n1.2.2 ∧ n3 = Pk.rI n2.2.1 n2.2.2 ∧ n1.1 = x.id ∧ n2.1 = x.span ∧ n3.1 = x.till ∧ x.till ≤ 9223372036854775807) := ⟨hn1, hn2, hn3, by rw [hx], by rw [hx], by rw [hx], by rw [hx]; simp only []; rw [hn3]; exact (wrap_rI _ _).2⟩
        have HST : Hid (Sq.rdL z1 z2 K [] 0 cl.2.1 cl.2.2 = if Sq.okB z1 z2 last x then Sq.rdL z1 z2 (K - (k + 1)) (acc ++ [x]) x.id n3.2.1 n3.2.2 else none) := (show Sq.rdL z1 z2 K [] 0 cl.2.1 cl.2.2 = if Sq.okB z1 z2 last x then Sq.rdL z1 z2 (K - (k + 1)) (acc ++ [x]) x.id n3.2.1 n3.2.2 else none by
          rw [H7.out.2.2.2, show K - k = K - (k + 1) + 1 by omega, Sq.rdL]
          have e : Sq.rd1 ys false = (x, n3.2) := by rw [hx, hn3, hn2, hn1]; rfl
          rw [e])
        clear hn1 hn2 hn3 hx
        go_wp2_with fail
        refine (Pw.fI64_any r _ b ys false wr H7.out.1.rf).mono ?_
        rintro e t2 ⟨rfl, hrd, hg⟩
        rw [← HX.out.1] at hrd ⊢
        rw [HX.out.2.2.2.1]
        have G2 : Hid (Gr15 w t2 r (.slice ao n cc) b n1.2.1 n1.2.2 q ⟨z, z1, z2, acc⟩ v') := H7.out.1.read hrd hg
        clear hrd hg rb
        go_wp2_with fail
        refine (Pw.fI64_any r _ b n1.2.1 n1.2.2 t2 G2.out.rf).mono ?_
        rintro e t3 ⟨rfl, hrd, hg⟩
        rw [← HX.out.2.1] at hrd ⊢
        rw [HX.out.2.2.2.2.1]
        have G3 : Hid (Gr15 w t3 r (.slice ao n cc) b n2.2.1 n2.2.2 q ⟨z, z1, z2, acc⟩ v') := G2.out.read hrd hg
        clear hrd hg G2
        go_wp2_with fail
        refine (Pw.fI64_any r _ b n2.2.1 n2.2.2 t3 G3.out.rf).mono ?_
        rintro e t4 ⟨rfl, hrd, hg⟩
        rw [← HX.out.2.2.1] at hrd ⊢
        rw [HX.out.2.2.2.2.2.1]
        have G4 : Hid (Gr15 w t4 r (.slice ao n cc) b n3.2.1 n3.2.2 q ⟨z, z1, z2, acc⟩ v') := G3.out.read hrd hg
        clear hrd hg G3
        obtain ⟨xb, hxb⟩ : ∃ z, z = t4.heap.size := ⟨_, rfl⟩
        have G5 : Hid (Gr15 w (t4.alloc (.cells #[.int .i64 x.id, .int .i64 x.span, .int .i64 x.till] 67)) r (.slice ao n cc) b n3.2.1 n3.2.2 q ⟨z, z1, z2, acc⟩ v' ∧ Cb (t4.alloc (.cells #[.int .i64 x.id, .int .i64 x.span, .int .i64 x.till] 67)) xb (oc x) 67 ∧ ¬ Fs15 v' q xb) := by
          have hbl := (Below.refl _ t4).alloc (Nat.le_refl _) (.cells #[.int .i64 x.id, .int .i64 x.span, .int .i64 x.till] 67)
          rw [hxb]
          refine ⟨G4.out.later hbl, Cb.made t4 (oc x) _, fun e => ?_⟩
          rcases e with e | e
          · have := (G4.out.se.row.lt _ e).2
            omega
          · have := G4.out.se.blk.lt
            omega
        go_upto_region 11 with fail
        rw [← hxb]
        clear hxb G4
        generalize (t4.alloc (.cells #[.int .i64 x.id, .int .i64 x.span, .int .i64 x.till] 67)) = t5 at *
        obtain ⟨va, vc, hve, _, _⟩ := row_form G5.out.1.se.row
        subst hve
        have d0 : t5.cell? ⟨xb, 0, none⟩ = some (.int .i64 x.id) := G5.out.2.1.cell 0
        have d1 : t5.cell? ⟨xb, 1, none⟩ = some (.int .i64 x.span) := G5.out.2.1.cell 1
        have d2 : t5.cell? ⟨xb, 2, none⟩ = some (.int .i64 x.till) := G5.out.2.1.cell 2
        have e1 : t5.cell? ⟨q, 1, none⟩ = some (.int .i64 z1) := G5.out.1.se.blk.cell 1
        have e2 : t5.cell? ⟨q, 2, none⟩ = some (.int .i64 z2) := G5.out.1.se.blk.cell 2
        obtain ⟨df, hdf⟩ : ∃ z, IntKind.wrap .i64 (x.till - z1) = z := ⟨_, rfl⟩
        by_cases g1 : x.id ≤ last
        · have HNO : Hid (Sq.get b = none) := (show Sq.get b = none by
            rw [HG.out, HST.out, if_neg]
            · rfl
            · intro e
              have := Sq.okB_iff.1 e
              have := HCK.out
              omega)
          go_quiet (fail)
          have HB : Hid (Below w.heap.size w (t5.drewN nq)) := below_drewN G5.out.1.below _
          go_wp2
          go_ret2
          exact GrP.no _ HNO.out HB.out
        by_cases g2 : z2 ≤ x.id
        · have HNO : Hid (Sq.get b = none) := (show Sq.get b = none by
            rw [HG.out, HST.out, if_neg]
            · rfl
            · intro e
              have := Sq.okB_iff.1 e
              have := HCK.out
              omega)
          go_quiet (fail)
          have HB : Hid (Below w.heap.size w (t5.drewN nq)) := below_drewN G5.out.1.below _
          go_wp2
          go_ret2
          exact GrP.no _ HNO.out HB.out
        by_cases g3 : x.span < 1
        · have HNO : Hid (Sq.get b = none) := (show Sq.get b = none by
            rw [HG.out, HST.out, if_neg]
            · rfl
            · intro e
              have := Sq.okB_iff.1 e
              have := HCK.out
              omega)
          go_quiet (fail)
          have HB : Hid (Below w.heap.size w (t5.drewN nq)) := below_drewN G5.out.1.below _
          go_wp2
          go_ret2
          exact GrP.no _ HNO.out HB.out
        by_cases g4 : 10000 < x.span
        · have HNO : Hid (Sq.get b = none) := (show Sq.get b = none by
            rw [HG.out, HST.out, if_neg]
            · rfl
            · intro e
              have := Sq.okB_iff.1 e
              have := HCK.out
              omega)
          go_quiet (fail)
          have HB : Hid (Below w.heap.size w (t5.drewN nq)) := below_drewN G5.out.1.below _
          go_wp2
          go_ret2
          exact GrP.no _ HNO.out HB.out
        by_cases g5 : x.till ≤ z1
        · have HNO : Hid (Sq.get b = none) := (show Sq.get b = none by
            rw [HG.out, HST.out, if_neg]
            · rfl
            · intro e
              have := Sq.okB_iff.1 e
              have := HCK.out
              omega)
          go_quiet (fail)
          have HB : Hid (Below w.heap.size w (t5.drewN nq)) := below_drewN G5.out.1.below _
          go_wp2
          go_ret2
          exact GrP.no _ HNO.out HB.out
        have HDF : Hid (df = x.till - z1) := (show df = x.till - z1 by have h1 := HCK.out; have h2 := HX.out.2.2.2.2.2.2; rw [← hdf, IntKind.wrap_i64]; omega)
        by_cases g6 : x.span < df
        · have HNO : Hid (Sq.get b = none) := (show Sq.get b = none by
            rw [HG.out, HST.out, if_neg]
            · rfl
            · intro e
              have := Sq.okB_iff.1 e
              have := HDF.out
              omega)
          go_quiet (fail)
          have HB : Hid (Below w.heap.size w (t5.drewN nq)) := below_drewN G5.out.1.below _
          go_wp2
          go_ret2
          exact GrP.no _ HNO.out HB.out
        by_cases g7 : x.till < x.span
        · have HNO : Hid (Sq.get b = none) := (show Sq.get b = none by
            rw [HG.out, HST.out, if_neg]
            · rfl
            · intro e
              have := Sq.okB_iff.1 e
              have := HDF.out
              omega)
          go_quiet (fail)
          have HB : Hid (Below w.heap.size w (t5.drewN nq)) := below_drewN G5.out.1.below _
          go_wp2
          go_ret2
          exact GrP.no _ HNO.out HB.out
        have HYES : Hid (Sq.rdL z1 z2 K [] 0 cl.2.1 cl.2.2 = Sq.rdL z1 z2 (K - (k + 1)) (acc ++ [x]) x.id n3.2.1 n3.2.2 ∧ 0 ≤ x.id) := by
          have e := HST.out
          have h1 := HDF.out
          have h2 := H7.out.2.2.1
          rw [if_pos (Sq.okB_iff.2 ⟨by omega, by omega, by omega, by omega, by omega, by omega, by omega⟩)] at e
          exact ⟨e, by omega⟩
        go_quiet (fail)
        have G6 : Hid (Gr15 w (t5.drewN nq) r (.slice ao n cc) b n3.2.1 n3.2.2 q ⟨z, z1, z2, acc⟩ (.slice va acc.length vc) ∧ Cb (t5.drewN nq) xb (oc x) 67 ∧ ¬ Fs15 (.slice va acc.length vc) q xb) := ⟨G5.out.1.later (below_drewN (Below.refl _ _) _), G5.out.2.1.below (below_drewN (Below.refl _ _) _), G5.out.2.2⟩
        clear d0 d1 d2 e1 e2 G5
        generalize t5.drewN nq = t6 at *
        have d0 : t6.cell? ⟨xb, 0, none⟩ = some (.int .i64 x.id) := G6.out.2.1.cell 0
        go_upto_region 14 with fail
        obtain ⟨M, hM⟩ : ∃ z, z = acc.length := ⟨_, rfl⟩
        rw [← hM] at G6
        have HM : Hid (M = acc.length ∧ M ≤ 64) := ⟨hM, by have h1 := H7.out.2.1; have h2 := HCK.out; omega⟩
        clear hM d0
        refine wp_region_T (fun w' => w'.cell? ⟨xb, 0, none⟩ = some (.int .i64 x.id) ∧ w'.cell? ⟨xb, 1, none⟩ = some (.int .i64 x.span) ∧ w'.cell? ⟨xb, 2, none⟩ = some (.int .i64 x.till) ∧ w'.cell? ⟨q, 3, none⟩ = some (Value.slice va M vc)) 10 (by kernel_rfl) ?_
        have G7 : Hid (Gr15 w t6.drew r (.slice ao n cc) b n3.2.1 n3.2.2 q ⟨z, z1, z2, acc⟩ (Value.slice va M vc) ∧ Cb t6.drew xb (oc x) 67 ∧ ¬ Fs15 (Value.slice va M vc) q xb) := ⟨G6.out.1.later (Below.refl _ _).drew, G6.out.2.1.below (Below.refl _ _).drew, G6.out.2.2⟩
        clear G6
        generalize t6.drew = t7 at *
        have HSY : Hid ((fun w' : World => w'.cell? ⟨xb, 0, none⟩ = some (.int .i64 x.id) ∧ w'.cell? ⟨xb, 1, none⟩ = some (.int .i64 x.span) ∧ w'.cell? ⟨xb, 2, none⟩ = some (.int .i64 x.till) ∧ w'.cell? ⟨q, 3, none⟩ = some (Value.slice va M vc)) t7) := ⟨G7.out.2.1.cell 0, G7.out.2.1.cell 1, G7.out.2.1.cell 2, G7.out.1.se.blk.cell 3⟩
        refine' take_T (i := 0) (d := 136) (v := _) rfl rfl (by kernel_rfl) (by kernel_rfl) (by kernel_rfl) (by kernel_rfl) (by kernel_rfl) (fun _ _ _ h => h) (Or.inl ⟨by rfl, ?h0⟩) (HSY.out) ?_
        case h0 =>
          intro w hSw
          obtain ⟨t0, t1, t2, t3⟩ := hSw
          go_simp
          with_reducible rfl
        simp only [List.setIfInBounds_toArray, List.set_cons_zero, List.set_cons_succ]
        refine' take_T (i := 1) (d := 137) (v := _) rfl rfl (by kernel_rfl) (by kernel_rfl) (by kernel_rfl) (by kernel_rfl) (by kernel_rfl) (fun _ _ _ h => h) (Or.inl ⟨by rfl, ?h1⟩) (HSY.out) ?_
        case h1 =>
          intro w hSw
          obtain ⟨t0, t1, t2, t3⟩ := hSw
          go_simp
          with_reducible rfl
        simp only [List.setIfInBounds_toArray, List.set_cons_zero, List.set_cons_succ]
        refine' take_T (i := 2) (d := 138) (v := _) rfl rfl (by kernel_rfl) (by kernel_rfl) (by kernel_rfl) (by kernel_rfl) (by kernel_rfl) (fun _ _ _ h => h) (Or.inl ⟨by rfl, ?h2⟩) (HSY.out) ?_
        case h2 =>
          intro w hSw
          obtain ⟨t0, t1, t2, t3⟩ := hSw
          go_simp
          with_reducible rfl
        simp only [List.setIfInBounds_toArray, List.set_cons_zero, List.set_cons_succ]
        refine' take_T (i := 3) (d := 139) (v := _) rfl rfl (by kernel_rfl) (by kernel_rfl) (by kernel_rfl) (by kernel_rfl) (by kernel_rfl) (fun _ _ _ h => h) (Or.inl ⟨by rfl, ?h3⟩) (HSY.out) ?_
        case h3 =>
          intro w hSw
          obtain ⟨t0, t1, t2, t3⟩ := hSw
          go_simp
          with_reducible rfl
        simp only [List.setIfInBounds_toArray, List.set_cons_zero, List.set_cons_succ]
        refine' take_T (i := 4) (d := 140) (v := _) rfl rfl (by kernel_rfl) (by kernel_rfl) (by kernel_rfl) (by kernel_rfl) (by kernel_rfl) (fun _ _ _ h => h) (Or.inl ⟨by rfl, ?h4⟩) (HSY.out) ?_
        case h4 =>
          intro w hSw
          obtain ⟨t0, t1, t2, t3⟩ := hSw
          go_simp
          with_reducible rfl
        simp only [List.setIfInBounds_toArray, List.set_cons_zero, List.set_cons_succ]
        refine' take_T (i := 5) (d := 141) (v := _) rfl rfl (by kernel_rfl) (by kernel_rfl) (by kernel_rfl) (by kernel_rfl) (by kernel_rfl) (fun _ _ _ h => h) (Or.inl ⟨by rfl, ?h5⟩) (HSY.out) ?_
        case h5 =>
          intro w hSw
          obtain ⟨t0, t1, t2, t3⟩ := hSw
          go_simp
          with_reducible rfl
        simp only [List.setIfInBounds_toArray, List.set_cons_zero, List.set_cons_succ]
        refine wpAnyT_ready (rs := [6]) (by kernel_rfl) (by simp) ?_
        refine AllReadyT.cons (o := _) rfl (fun KQ hKQ => ?_) AllReadyT.nil
        go_simp
        obtain ⟨sb, hsb⟩ : ∃ z, z = t7.heap.size := ⟨_, rfl⟩
        rw [← hsb]
        have G8 : Hid (Gr15 w (t7.alloc (.cells #[.int .i64 x.id, .int .i64 x.span, .int .i64 x.till] 67)) r (.slice ao n cc) b n3.2.1 n3.2.2 q ⟨z, z1, z2, acc⟩ (Value.slice va M vc) ∧ (Cb (t7.alloc (.cells #[.int .i64 x.id, .int .i64 x.span, .int .i64 x.till] 67)) xb (oc x) 67 ∧ ¬ Fs15 (Value.slice va M vc) q xb) ∧ Cb (t7.alloc (.cells #[.int .i64 x.id, .int .i64 x.span, .int .i64 x.till] 67)) sb (oc x) 67) := by
          have hbl := (Below.refl _ t7).alloc (Nat.le_refl _) (.cells #[.int .i64 x.id, .int .i64 x.span, .int .i64 x.till] 67)
          rw [hsb]
          exact ⟨G7.out.1.later hbl, ⟨G7.out.2.1.below hbl, G7.out.2.2⟩, Cb.made t7 (oc x) _⟩
        clear HSY G7 hsb
        generalize (t7.alloc (.cells #[.int .i64 x.id, .int .i64 x.span, .int .i64 x.till] 67)) = t8 at *
        refine hKQ.out _ _ (fun _ => ⟨G8.out.2.1.1.cell 0, G8.out.2.1.1.cell 1, G8.out.2.1.1.cell 2, G8.out.1.se.blk.cell 3⟩) ?_
        clear hKQ KQ
        refine wpAnyT_ready (rs := [7]) (by kernel_rfl) (by simp) ?_
        refine AllReadyT.cons (o := _) rfl (fun KQ hKQ => ?_) AllReadyT.nil
        refine wp_oc15 infoOn Try.underlying36 _ _ rfl 0 (Value.slice va M vc) (.slice (some ⟨sb, 0, none⟩) 1 1) acc [x] t8 rfl rfl G8.out.1.se.row (Nat.zero_le _) (Soc.one G8.out.2.2) (by have := HM.out; simp only [List.length_singleton]; omega) ?_
        intro v9 t9 hr9 hb9 hg9 hv9
        have G9 : Hid (Cb t9 q [.int .i64 z, .int .i64 z1, .int .i64 z2, (Value.slice va M vc)] 38 ∧ Gr15 w (t9.setCell ⟨q, 3, none⟩ v9) r (.slice ao n cc) b n3.2.1 n3.2.2 q ⟨z, z1, z2, acc ++ [x]⟩ v9 ∧ Cb t9 xb (oc x) 67) := by
          have hap := G8.out.1.se.blk.apart G8.out.1.se.row (by decide)
          have hq : Cb t9 q [.int .i64 z, .int .i64 z1, .int .i64 z2, (Value.slice va M vc)] 38 := G8.out.1.se.blk.keep (hg9.block q G8.out.1.se.blk.lt (fun e => hap e.symm))
          have hx9 : Cb t9 xb (oc x) 67 := G8.out.2.1.1.keep (hg9.block xb G8.out.2.1.1.lt (fun e => G8.out.2.1.2 (Or.inl e.symm)))
          have hg := grownBy_setCell t9 ⟨q, 3, none⟩ v9
          have hap9 : v9.ownBlock ≠ some q := hq.apart hr9 (by decide)
          have hrq := G8.out.1.hi q (Or.inr rfl)
          have hlo := G8.out.1.lo
          have hrf9 : Pw.Rf t9 r (.slice ao n cc) b n3.2.1 n3.2.2 := by
            cases ho : ((Value.slice va M vc)).ownBlock with
            | none =>
              rw [ho] at hg9
              exact Rf.on15 G8.out.1.rf hlo G8.out.1.vlo (k := t8.heap.size) ⟨hg9.os, hg9.tape, hg9.output, hg9.size, fun i hi _ => hg9.block i hi (by simp)⟩ (Rf.lt15 G8.out.1.rf)
            | some g =>
              rw [ho] at hg9
              exact Rf.on15 G8.out.1.rf hlo G8.out.1.vlo hg9 (G8.out.1.hi g (Or.inl ho))
          have hbe : Below w.heap.size w t9 := G8.out.1.below.grown hg9 G8.out.1.below.size (fun k hk => by have := G8.out.1.hi k (Or.inl hk); omega)
          refine ⟨hq, ⟨Rf.on15 hrf9 hlo G8.out.1.vlo hg hrq, hlo, G8.out.1.vlo, ⟨hq.set 3 _, ?_⟩, fun k hk => ?_, hbe.grown hg hbe.size (fun k hk => by simp at hk; omega)⟩, hx9⟩
          · exact row_stays hr9 fun k hk => hg.block k (hr9.lt k hk).2 (fun e => hap9 (by rw [hk]; simpa using e))
          · rcases hk with hk | rfl
            · rcases hv9 with e | e
              · exact G8.out.1.hi k (Or.inl (by rw [← e]; exact hk))
              · rw [e] at hk
                simp only [Option.some.injEq] at hk
                have := Rf.lt15 G8.out.1.rf
                omega
            · exact hrq
        obtain ⟨a9, c9, e9, j1, j2⟩ := row_form hr9
        obtain ⟨M9, hM9⟩ : ∃ z, z = (acc ++ [x]).length := ⟨_, rfl⟩
        rw [← hM9] at e9
        subst e9
        clear hr9 hb9 hg9 hv9 j1 j2 hM9 G8
        refine hKQ.out _ _ (fun _ => ⟨G9.out.2.2.cell 0, G9.out.2.2.cell 1, G9.out.2.2.cell 2, G9.out.1.cell 3⟩) ?_
        clear hKQ KQ
        refine' take_T (i := 8) (d := 144) (v := _) rfl rfl (by kernel_rfl) (by kernel_rfl) (by kernel_rfl) (by kernel_rfl) (by kernel_rfl) (fun _ _ _ h => h) (Or.inl ⟨by rfl, ?h8⟩) (⟨G9.out.2.2.cell 0, G9.out.2.2.cell 1, G9.out.2.2.cell 2, G9.out.1.cell 3⟩) ?_
        case h8 =>
          intro w hSw
          go_simp
          with_reducible rfl
        simp only [List.setIfInBounds_toArray, List.set_cons_zero, List.set_cons_succ]
        refine' take_T (i := 9) (d := 145) (v := _) rfl rfl (by kernel_rfl) (by kernel_rfl) (by kernel_rfl) (by kernel_rfl) (by kernel_rfl) (fun _ _ _ h => h) (Or.inl ⟨by rfl, ?h9⟩) (⟨G9.out.2.2.cell 0, G9.out.2.2.cell 1, G9.out.2.2.cell 2, G9.out.1.cell 3⟩) ?_
        case h9 =>
          intro w hSw
          go_simp
          with_reducible rfl
        simp only [List.setIfInBounds_toArray, List.set_cons_zero, List.set_cons_succ]
        refine wpAnyT_ready (rs := [10]) (by kernel_rfl) (by simp) ?_
        refine AllReadyT.cons (o := _) rfl (fun KQ hKQ => ?_) AllReadyT.nil
        have y3 : t9.cell? ⟨q, 3, none⟩ = some (Value.slice va M vc) := G9.out.1.cell 3
        have f3 := G9.out.1.free 3
        go_simp
        clear y3 f3
        have G10 : Hid (Gr15 w (t9.setCell ⟨q, 3, none⟩ (.slice a9 M9 c9)) r (.slice ao n cc) b n3.2.1 n3.2.2 q ⟨z, z1, z2, acc ++ [x]⟩ (.slice a9 M9 c9)) := G9.out.2.1
        clear G9
        generalize t9.setCell ⟨q, 3, none⟩ (.slice a9 M9 c9) = t10 at *
        refine hKQ.out _ _ (fun h => absurd rfl h) ?_
        clear hKQ KQ
        refine wpAnyT_done (by kernel_rfl) ?_ _
        go_wp2
        go_roundw
        case rel => exact ⟨k + 1, acc ++ [x], x.id, _, _, _, by omega, by go_num, rfl, HYES.out.2, by rw [List.length_append, H7.out.2.1]; rfl, G10.out, HYES.out.1⟩
        case measure => simp [intOf]; omega
    · have hlt' : ¬ (k : Int) < (K : Int) := by omega
      obtain rfl : k = K := by omega
      have HTT : Hid (Sq.get b = Sq.fin z z1 z2 (some (acc, ys, bd))) := (show Sq.get b = Sq.fin z z1 z2 (some (acc, ys, bd)) by
        have h := H7.out.2.2.2
        rw [Nat.sub_self] at h
        rw [HG.out, h]
        rfl)
      go_wp2_with fail
      refine (Pw.fEnd_any r _ b ys bd wr H7.out.1.rf).mono ?_
      rintro e wE ⟨rfl, nE, hwE⟩
      have HE : Hid (Below w.heap.size w wE) := by rw [hwE]; exact below_drewN H7.out.1.below _
      have HLE : Hid (Rs15 wE q ⟨z, z1, z2, acc⟩ v') := by rw [hwE]; exact H7.out.1.se.later (below_drewN (Below.refl _ _) _)
      clear hwE
      obtain ⟨eb, heb⟩ : ∃ x, x = (!bd && ys.isEmpty) := ⟨_, rfl⟩
      rw [← heb]
      have HEB : Hid (eb = (!bd && ys.isEmpty)) := heb
      clear heb
      cases eb with
      | false =>
        have HNO : Hid (Sq.get b = none) := (show Sq.get b = none by
          rw [HTT.out]
          unfold Sq.fin
          simp only []
          rw [if_neg]
          rintro ⟨rfl, rfl⟩
          cases HEB.out)
        go_wp2
        go_ret2
        exact GrP.no _ HNO.out HE.out
      | true =>
        have HYS : Hid (Sq.get b = some ⟨z, z1, z2, acc⟩) := (show Sq.get b = some ⟨z, z1, z2, acc⟩ by
          rw [HTT.out]
          have h := HEB.out
          cases bd with
          | true => cases h
          | false =>
            cases ys with
            | nil => rfl
            | cons y ys => cases h)
        have HEN : Hid (GrP w (Sq.get b) (.returned (.tuple #[dptr q, .bool true])) wE) := by
          refine ⟨HE.out, fun e => (by rw [HYS.out] at e; cases e), fun s' e => ?_⟩
          rw [HYS.out] at e
          obtain rfl := Option.some.inj e
          exact ⟨q, _, rfl, ⟨v', HLE.out, rfl⟩, fun k hk => by have := H7.out.1.hi k hk; have := H7.out.1.lo; omega⟩
        go_wp2
        go_ret2
        exact HEN.out
end Go.Proofs.Ytlabdhllindenaa
