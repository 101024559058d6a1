/- The reference's GetTable. -/
import Derived.Test.YtpjdjobdbandhaaDoorRefP16
import Derived.Test.YtpjdjobdbandhaaDoorRefS16
import Derived.Test.YtpjdjobdbandhaaDoorWRd16
namespace Go.Proofs.YtpjdjobdbandhaaDoor
open Go.RowKit

/-- A Table that the reference reads: its Reader, and what was read, in blocks above the Reader's. -/
structure Gr16 (w0 w : World) (r : Nat) (vb : Value) (b ys : List UInt8) (bad : Bool) (q : Nat) (s : Tb.St) (v : Value) : Prop where
  rf : Pw.Rf w r vb b ys bad
  lo : w0.heap.size ≤ r
  vlo : 0 < b.length → ∀ k, vb.ownBlock = some k → k < w0.heap.size
  se : Lr16 w q s v
  hi : ∀ k, Ft16 v q k → r < k
  below : Below w0.heap.size w0 w
theorem Rf.lt16 {w : World} {q : Nat} {v : Value} {xs ys : List UInt8} {bad : Bool} (h : Pw.Rf w q v xs ys bad) : q < w.heap.size := World.block_lt_of_cell? w ⟨q, 2, none⟩ h.c2
section
variable {w0 w w' : World} {r q : Nat} {vb v : Value} {b ys zs : List UInt8} {bad bad' : Bool} {s : Tb.St}
theorem Rf.on16 (h : Pw.Rf w r vb b ys bad) (hlo : w0.heap.size ≤ r) (hv : 0 < b.length → ∀ k, vb.ownBlock = some k → k < w0.heap.size) {k : Nat} (hg : w.grownBy w' (some k)) (hk : r < k) : Pw.Rf w' r vb b ys bad :=
  h.grown hg (by omega) (fun h0 e => by have := hv h0 k e; omega)
theorem Gr16.later (h : Gr16 w0 w r vb b ys bad q s v) (hb : Below w.heap.size w w') : Gr16 w0 w' r vb b ys bad q s v :=
  ⟨Rf.on16 h.rf h.lo h.vlo (grownBy_below (row := some w.heap.size) hb) (Rf.lt16 h.rf), h.lo, h.vlo, h.se.later hb, h.hi, h.below.trans (hb.mono h.below.size)⟩
theorem Gr16.read (h : Gr16 w0 w r vb b ys bad q s v) (hr : Pw.Rf w' r vb b zs bad') (hg : w.grownBy w' (some r)) : Gr16 w0 w' r vb b zs bad' q s v := by
  have hk : ∀ k, Ft16 v q k → k < w.heap.size → w'.heap[k]? = w.heap[k]? := fun k hk hl => hg.block k hl (fun e => by have := h.hi k hk; simp at e; omega)
  exact ⟨hr, h.lo, h.vlo, ⟨h.se.blk.keep (hk q (Or.inr rfl) h.se.blk.lt), row_stays h.se.row fun k e => hk k (Or.inl e) (h.se.row.lt k e).2⟩, h.hi, Below.reader h.below hg (Nat.le_refl _) h.lo⟩
end
def GrP (w : World) (o : Option Tb.St) (e : Ending) (w' : World) : Prop := Below w.heap.size w w' ∧ (o = none → ∃ p, e = .returned (.tuple #[p, .bool false])) ∧ ∀ s, o = some s → ∃ q F, e = .returned (.tuple #[dptr q, .bool true]) ∧ LRb w' q s F ∧ ∀ k, F k → w.heap.size ≤ k
theorem GrP.no {w w' : World} {o : Option Tb.St} (p : Value) (h : o = none) (hb : Below w.heap.size w w') : GrP w o (.returned (.tuple #[p, .bool false])) w' := ⟨hb, fun _ => ⟨p, rfl⟩, fun s e => by rw [h] at e; cases e⟩
set_option maxRecDepth 20000 in
set_option maxHeartbeats 8000000 in
theorem refGet_walk16 (vb : Value) (b : List UInt8) (w : World) (hb : Bs w vb b) (hl : b.length ≤ 4000) :
    Calls Tryd.prog 25 #[vb] w fun e w' => GrP w (Tb.get b) e w' := by
  have H0 : Hid (Bs w vb b ∧ b.length ≤ 4000) := ⟨hb, hl⟩
  obtain ⟨ao, n, cc, rfl, hn9, hs9⟩ := hb
  clear hn9 hs9
  go_enter Tryd.func25, Tryd.ntmps25
  go_upto_region 2 with fail
  obtain ⟨r, hr⟩ : ∃ z, z = w.heap.size := ⟨_, rfl⟩
  have H1 : Hid (Pw.Rf (w.alloc (.cells #[.slice ao n cc, .int .i64 0, .bool false] 80)) r (.slice ao n cc) b b false ∧ Below w.heap.size w (w.alloc (.cells #[.slice ao n cc, .int .i64 0, .bool false] 80)) ∧ w.heap.size ≤ r ∧ (0 < b.length → ∀ k, (Value.slice ao n cc).ownBlock = some k → k < w.heap.size)) := by
    have hbl := (Below.refl _ w).alloc (Nat.le_refl _) (.cells #[.slice ao n cc, .int .i64 0, .bool false] 80)
    have hvl : 0 < b.length → ∀ k, (Value.slice ao n cc).ownBlock = some k → k < w.heap.size := fun h0 k hk => by
      obtain ⟨g, o, n', c', e, _, _, hc⟩ := H0.out.1.plain h0
      rw [e] at hk
      simp only [Value.ownBlock, Option.some.injEq] at hk
      subst hk
      exact World.block_lt_of_cell? w _ (hc 0 _ (List.getElem?_eq_getElem h0))
    have hcb : Cb (w.alloc (.cells #[.slice ao n cc, .int .i64 0, .bool false] 80)) w.heap.size [.slice ao n cc, .int .i64 0, .bool false] 80 := Cb.made w _ _
    rw [hr]
    exact ⟨⟨⟨0, hcb.cell 1, Nat.zero_le _, fun _ => by simp⟩, hcb.cell 0, hcb.cell 2, hcb.free 1, hcb.free 2, H0.out.1.below hbl, fun h0 e => (by have := hvl h0 _ e; omega), fun h => (by cases h), (by have := H0.out.2; omega)⟩, hbl, Nat.le_refl _, hvl⟩
  rw [← hr]
  clear hr
  generalize (w.alloc (.cells #[.slice ao n cc, .int .i64 0, .bool false] 80)) = w1 at *
  obtain ⟨c, hc⟩ : ∃ c, c = Pk.rC 4 b false := ⟨_, rfl⟩
  obtain ⟨nn, hnn⟩ : ∃ n, n = Pk.rI c.2.1 c.2.2 := ⟨_, rfl⟩
  obtain ⟨cl, hcl⟩ : ∃ n, n = Pk.rC 50 nn.2.1 nn.2.2 := ⟨_, rfl⟩
  have HN : Hid (c = Pk.rC 4 b false ∧ nn = Pk.rI c.2.1 c.2.2 ∧ cl = Pk.rC 50 nn.2.1 nn.2.2) := ⟨hc, hnn, hcl⟩
  clear hc hnn hcl
  go_wp2_with fail
  refine (Pw.fCount_any r 4 _ b b false w1 H1.out.1).mono ?_
  rintro e w2 ⟨rfl, hrd, hg⟩
  rw [← HN.out.1] at hrd ⊢
  have H2 : Hid (Pw.Rf w2 r (.slice ao n cc) b c.2.1 c.2.2 ∧ Below w.heap.size w w2) := ⟨hrd, Below.reader H1.out.2.1 hg (Nat.le_refl _) H1.out.2.2.1⟩
  clear hrd hg
  obtain ⟨z, hz⟩ : ∃ z, z = c.1 := ⟨_, rfl⟩
  rw [← hz]
  have HZ : Hid (z = c.1) := hz
  clear hz
  go_wp2_with fail
  refine (Pw.fI64_any r _ b c.2.1 c.2.2 w2 H2.out.1).mono ?_
  rintro e w4 ⟨rfl, hrd, hg⟩
  rw [← HN.out.2.1] at hrd ⊢
  have H4 : Hid (Pw.Rf w4 r (.slice ao n cc) b nn.2.1 nn.2.2 ∧ Below w.heap.size w w4) := ⟨hrd, Below.reader H2.out.2 hg (Nat.le_refl _) H1.out.2.2.1⟩
  clear hrd hg H2
  obtain ⟨z1, hz1⟩ : ∃ z, z = nn.1 := ⟨_, rfl⟩
  rw [← hz1]
  have HZ1 : Hid (z1 = nn.1) := hz1
  clear hz1
  obtain ⟨q, hq⟩ : ∃ z, z = w4.heap.size := ⟨_, rfl⟩
  have H5 : Hid (Gr16 w (w4.alloc (.cells #[.int .i64 z, .int .i64 z1, .slice none 0 0] 46)) r (.slice ao n cc) b nn.2.1 nn.2.2 q ⟨z, z1, []⟩ (.slice none 0 0)) := by
    have hbl := (Below.refl _ w4).alloc (Nat.le_refl _) (.cells #[.int .i64 z, .int .i64 z1, .slice none 0 0] 46)
    rw [hq]
    refine ⟨Rf.on16 H4.out.1 H1.out.2.2.1 H1.out.2.2.2 (grownBy_below (row := some w4.heap.size) hbl) (Rf.lt16 H4.out.1), H1.out.2.2.1, H1.out.2.2.2, ⟨Cb.made w4 [.int .i64 z, .int .i64 z1, .slice none 0 0] _, World.ownsRow_nil _ _ _ _⟩, fun k hk => ?_, H4.out.2.trans (hbl.mono H4.out.2.size)⟩
    rcases hk with hk | rfl
    · cases hk
    · exact Rf.lt16 H4.out.1
  go_wp2_with fail
  rw [← hq]
  clear hq H4 H1
  generalize (w4.alloc (.cells #[.int .i64 z, .int .i64 z1, .slice none 0 0] 46)) = w5 at *
  refine (Pw.fCount_any r 50 _ b nn.2.1 nn.2.2 w5 H5.out.rf).mono ?_
  rintro e w6 ⟨rfl, hrd, hg⟩
  rw [← HN.out.2.2] at hrd ⊢
  have H6 : Hid (Gr16 w w6 r (.slice ao n cc) b cl.2.1 cl.2.2 q ⟨z, z1, []⟩ (.slice none 0 0)) := H5.out.read hrd hg
  clear hrd hg H5
  have hcn := Pk.rC_nonneg 50 nn.2.1 nn.2.2
  rw [← HN.out.2.2] at hcn
  obtain ⟨K, hK⟩ : ∃ K : Nat, cl.1 = (K : Int) := ⟨cl.1.toNat, by omega⟩
  rw [hK]
  have hK50 : K ≤ 50 := by
    have h : cl.1 ≤ 50 := by
      rw [HN.out.2.2]
      exact Tb.rC_up4 (by omega)
    omega
  have HK : Hid (cl.1 = (K : Int) ∧ K ≤ 50) := ⟨hK, hK50⟩
  have hwK : IntKind.wrap .i64 ((K : Int) + 1) = (K : Int) + 1 := by rw [IntKind.wrap_i64]; omega
  clear hcn hK
  have d0 : w6.cell? ⟨q, 0, none⟩ = some (.int .i64 z) := H6.out.se.blk.cell 0
  have d1 : w6.cell? ⟨q, 1, none⟩ = some (.int .i64 z1) := H6.out.se.blk.cell 1
  have HGE : Hid (¬ z < 1 → Tb.get b = Tb.fin z z1 (Tb.rdL (z - 1) K [] ⟨#[]⟩ cl.2.1 cl.2.2)) := fun h1 => by
    unfold Tb.get
    rw [← HN.out.1, ← HZ.out, if_neg h1, ← HN.out.2.1, ← HZ1.out]
    unfold Tb.get3
    rw [← HN.out.2.2, HK.out.1]
    rfl
  by_cases b1 : z < 1
  · have HNO : Hid (Tb.get b = none) := (show Tb.get b = none by
      unfold Tb.get
      rw [← HN.out.1, ← HZ.out, if_pos b1])
    go_wp2
    go_ret2
    exact GrP.no _ HNO.out H6.out.below
  have HG : Hid (Tb.get b = Tb.fin z z1 (Tb.rdL (z - 1) K [] ⟨#[]⟩ cl.2.1 cl.2.2)) := HGE.out b1
  have HZB : Hid (1 ≤ z ∧ z ≤ 4) := ⟨by omega, by
    rw [HZ.out, HN.out.1]
    exact Tb.rC_up4 (by omega)⟩
  clear HGE
  by_cases b2 : z1 < (K : Int) + 1
  · have HNO : Hid (Tb.get b = none) := (show Tb.get b = none by
      rw [HG.out]
      refine Tb.fin_ver K _ _ _ ?_
      cases e : Tb.verB z1 K with
      | false => rfl
      | true =>
        have h := Tb.verB_iff.1 e
        by_cases h0 : K = 0
        · have := h.1 h0
          omega
        · have := h.2 h0
          omega)
    go_wp2
    go_ret2
    exact GrP.no _ HNO.out H6.out.below
  by_cases b3 : 1099511627776 < z1
  · have HNO : Hid (Tb.get b = none) := (show Tb.get b = none by
      rw [HG.out]
      refine Tb.fin_ver K _ _ _ ?_
      cases e : Tb.verB z1 K with
      | false => rfl
      | true =>
        have h := Tb.verB_iff.1 e
        by_cases h0 : K = 0
        · have := h.1 h0
          omega
        · have := h.2 h0
          omega)
    go_wp2
    go_ret2
    exact GrP.no _ HNO.out H6.out.below
  have HVR : Hid ((K = 0 → Tb.verB z1 K = decide (z1 = 1)) ∧ (K ≠ 0 → Tb.verB z1 K = true)) := ⟨fun h0 => by unfold Tb.verB; rw [if_pos h0], fun h0 => Tb.verB_iff.2 ⟨fun h => absurd h h0, fun _ => ⟨by omega, by omega⟩⟩⟩
  go_wp2
  clear d0 d1 b1 b2 b3 hwK
  go_loopw [7, 8] (fun u i wx => ∃ (k : Nat) (acc : List Tb.Mv) (last : ByteArray) (ys : List UInt8) (bd : Bool) (v' : Value), k ≤ K ∧ i = .int .i64 (k : Int) ∧ u = .string last ∧ acc.length = k ∧ Gr16 w wx r (.slice ao n cc) b ys bd q ⟨z, z1, acc⟩ v' ∧ Tb.fin z z1 (Tb.rdL (z - 1) K [] ⟨#[]⟩ cl.2.1 cl.2.2) = Tb.fin z z1 (Tb.rdL (z - 1) (K - k) acc last ys bd)) (fun _ i _ => K - (intOf i).toNat)
  case atStart => exact ⟨0, [], ⟨#[]⟩, _, _, _, Nat.zero_le _, rfl, rfl, rfl, H6.out, rfl⟩
  case round =>
    obtain ⟨k, acc, last, ys, bd, v', hk, rfl, rfl, hac, hG9, hT⟩ := hrel
    have H7 : Hid (Gr16 w wr r (.slice ao n cc) b ys bd q ⟨z, z1, acc⟩ v' ∧ acc.length = k ∧ Tb.fin z z1 (Tb.rdL (z - 1) K [] ⟨#[]⟩ cl.2.1 cl.2.2) = Tb.fin z z1 (Tb.rdL (z - 1) (K - k) acc last ys bd)) := ⟨hG9, hac, hT⟩
    clear hG9 hac hT H6
    have rb : wr.cell? ⟨r, 2, none⟩ = some (.bool bd) := H7.out.1.rf.c2
    by_cases hlt : k < K
    · have hlt' : (k : Int) < (K : Int) := by omega
      have hwk : IntKind.wrap .i64 ((k : Int) + 1) = (k : Int) + 1 := by rw [IntKind.wrap_i64]; omega
      cases bd with
      | true =>
        have HNO : Hid (Tb.get b = none) := (show Tb.get b = none by
          rw [HG.out, H7.out.2.2]
          exact Tb.fin_true _ _ _ _)
        go_wp2_with fail
        refine (Pw.fEnd_any r _ b ys true wr H7.out.1.rf).mono ?_
        rintro e wE ⟨rfl, nE, hwE⟩
        have HE : Hid (Below w.heap.size w wE) := by rw [hwE]; exact below_drewN H7.out.1.below _
        have HLE : Hid (Lr16 wE q ⟨z, z1, acc⟩ v') := by rw [hwE]; exact H7.out.1.se.later (below_drewN (Below.refl _ _) _)
        clear hwE
        simp only [Bool.not_true, Bool.false_and]
        go_wp2
        go_ret2
        exact GrP.no _ HNO.out HE.out
      | false =>
        obtain ⟨n1, hn1⟩ : ∃ n, n = Pk.rT 40 ys false := ⟨_, rfl⟩
        obtain ⟨n2, hn2⟩ : ∃ n, n = Pk.rC 3 n1.2.1 n1.2.2 := ⟨_, rfl⟩
        obtain ⟨x, hx⟩ : ∃ x : Tb.Mv, x = ⟨⟨n1.1.toArray⟩, n2.1⟩ := ⟨_, rfl⟩
        have HX : Hid (n1 = Pk.rT 40 ys false ∧ n2 = Pk.rC 3 n1.2.1 n1.2.2 ∧ (⟨n1.1.toArray⟩ : ByteArray) = x.top ∧ n2.1 = x.shard ∧ x.top.size ≤ maxLen) := ⟨hn1, hn2, by rw [hx], by rw [hx], by
          rw [hx]
          show n1.1.toArray.size ≤ maxLen
          have h1 : n1.1.length ≤ 40 := by
            rw [hn1]
            unfold Pk.rT
            split
            · have h2 := Tb.rC_up4 (n := 40) (xs := ys) (bad := false) (by omega)
              simp only []
              rw [List.length_take]
              omega
            · simp
          unfold maxLen
          simp only [List.size_toArray]
          omega⟩
        have HST : Hid (Tb.fin z z1 (Tb.rdL (z - 1) K [] ⟨#[]⟩ cl.2.1 cl.2.2) = Tb.fin z z1 (if Tb.okB last (Tb.rd1 (z - 1) ys false).1 then Tb.rdL (z - 1) (K - (k + 1)) (acc ++ [(Tb.rd1 (z - 1) ys false).1]) (Tb.rd1 (z - 1) ys false).1.top (Tb.rd1 (z - 1) ys false).2.1 (Tb.rd1 (z - 1) ys false).2.2 else none) ∧ (Tb.rd1 (z - 1) ys false).1.top = x.top) := ⟨by
          rw [H7.out.2.2, show K - k = K - (k + 1) + 1 by omega, Tb.rdL], by
          unfold Tb.rd1
          rw [← HX.out.1]
          exact HX.out.2.2.1⟩
        clear hn1 hn2 hx
        go_wp2_with fail
        refine (Pw.fText_any r 40 _ b ys false wr H7.out.1.rf).mono ?_
        rintro e t2 ⟨rfl, hrd, hg⟩
        rw [← HX.out.1] at hrd ⊢
        rw [HX.out.2.2.1]
        have G2 : Hid (Gr16 w t2 r (.slice ao n cc) b n1.2.1 n1.2.2 q ⟨z, z1, acc⟩ v') := H7.out.1.read hrd hg
        clear hrd hg rb
        have HUP : Hid ((x.shard < z → Tb.rd1 (z - 1) ys false = (x, n2.2)) ∧ (¬ x.shard < z → (Tb.rd1 (z - 1) ys false).2.2 = true)) := by
          have hs := G2.out.rf.sad
          refine ⟨fun h => ?_, fun h => ?_⟩
          · rw [← HX.out.2.2.2.1, HX.out.2.1] at h
            unfold Tb.rd1
            rw [← HX.out.1, Tb.rC_up HZB.out.2 h, ← HX.out.2.1, HX.out.2.2.2.1, HX.out.2.2.1]
          · rw [← HX.out.2.2.2.1, HX.out.2.1] at h
            unfold Tb.rd1
            rw [← HX.out.1, Tb.rC_out HZB.out.2 (Or.inl h) HZB.out.1 hs]
        go_wp2_with fail
        refine (Pw.fCount_any r 3 _ b n1.2.1 n1.2.2 t2 G2.out.rf).mono ?_
        rintro e t4 ⟨rfl, hrd, hg⟩
        rw [← HX.out.2.1] at hrd ⊢
        rw [HX.out.2.2.2.1]
        have G4 : Hid (Gr16 w t4 r (.slice ao n cc) b n2.2.1 n2.2.2 q ⟨z, z1, acc⟩ v') := G2.out.read hrd hg
        clear hrd hg G2
        obtain ⟨xb, hxb⟩ : ∃ z, z = t4.heap.size := ⟨_, rfl⟩
        have G5 : Hid (Gr16 w (t4.alloc (.cells #[.string x.top, .int .i64 x.shard] 74)) r (.slice ao n cc) b n2.2.1 n2.2.2 q ⟨z, z1, acc⟩ v' ∧ Cb (t4.alloc (.cells #[.string x.top, .int .i64 x.shard] 74)) xb (mc x) 74 ∧ ¬ Ft16 v' q xb) := by
          have hbl := (Below.refl _ t4).alloc (Nat.le_refl _) (.cells #[.string x.top, .int .i64 x.shard] 74)
          rw [hxb]
          refine ⟨G4.out.later hbl, Cb.made t4 (mc x) _, fun e => ?_⟩
          rcases e with e | e
          · have := (G4.out.se.row.lt _ e).2
            omega
          · have := G4.out.se.blk.lt
            omega
        go_upto_region 11 with fail
        rw [← hxb]
        clear hxb G4
        generalize (t4.alloc (.cells #[.string x.top, .int .i64 x.shard] 74)) = t5 at *
        obtain ⟨va, vc, hve, _, _⟩ := row_form (show t5.ownsRow 0 74 2 v' acc.length (mcs acc) from G5.out.1.se.row)
        obtain ⟨M, hM⟩ : ∃ z, z = acc.length := ⟨_, rfl⟩
        rw [← hM] at hve
        subst hve
        have HM : Hid (M = acc.length ∧ M ≤ 50) := ⟨hM, by have h1 := H7.out.2.1; have h2 := HK.out.2; omega⟩
        clear hM
        obtain ⟨nm, hnm⟩ : ∃ z, z = Pl.nameB x.top.data.toList := ⟨_, rfl⟩
        have HIN : Hid (∀ w1, Calls Tryd.prog 39 #[.string x.top] w1 fun e w' => e = .returned (.bool nm) ∧ w' = w1) := fun w1 => by
          rw [hnm]
          exact Pa.isName_any x.top w1 HX.out.2.2.2.2
        have HNM : Hid (nm = Tb.isName x.top) := hnm
        clear hnm
        refine wp_region_held_drew (S := fun w' => w'.cell? ⟨xb, 0, none⟩ = some (.string x.top) ∧ w'.cell? ⟨xb, 1, none⟩ = some (.int .i64 x.shard) ∧ w'.cell? ⟨q, 0, none⟩ = some (.int .i64 z)) (by kernel_rfl) ⟨G5.out.2.1.cell 0, G5.out.2.1.cell 1, G5.out.1.se.blk.cell 0⟩ (fun _ => ?_)
        have G6 : Hid (Gr16 w t5.drew r (.slice ao n cc) b n2.2.1 n2.2.2 q ⟨z, z1, acc⟩ (Value.slice va M vc) ∧ Cb t5.drew xb (mc x) 74 ∧ ¬ Ft16 (Value.slice va M vc) q xb) := ⟨G5.out.1.later (Below.refl _ _).drew, G5.out.2.1.below (Below.refl _ _).drew, G5.out.2.2⟩
        clear G5
        generalize t5.drew = t6 at *
        have HSY : Hid ((fun w' : World => w'.cell? ⟨xb, 0, none⟩ = some (.string x.top) ∧ w'.cell? ⟨xb, 1, none⟩ = some (.int .i64 x.shard) ∧ w'.cell? ⟨q, 0, none⟩ = some (.int .i64 z)) t6) := ⟨G6.out.2.1.cell 0, G6.out.2.1.cell 1, G6.out.1.se.blk.cell 0⟩
        refine' take_at (i := 0) (d := 59) (v := _) rfl rfl (by kernel_rfl) (by kernel_rfl) (by kernel_rfl) (fun _ _ _ h => h) (Or.inl ⟨by rfl, ?h0⟩) (HSY.out) ?_
        case h0 =>
          intro w hSw
          obtain ⟨t0, t1, t2⟩ := hSw
          go_simp
          with_reducible rfl
        simp only [List.setIfInBounds_toArray, List.set_cons_zero, List.set_cons_succ]
        refine' take_at (i := 1) (d := 60) (v := _) rfl rfl (by kernel_rfl) (by kernel_rfl) (by kernel_rfl) (fun _ _ _ h => h) (Or.inl ⟨by rfl, ?h1⟩) (HSY.out) ?_
        case h1 =>
          intro w hSw
          obtain ⟨t0, t1, t2⟩ := hSw
          go_simp
          with_reducible rfl
        simp only [List.setIfInBounds_toArray, List.set_cons_zero, List.set_cons_succ]
        refine wpAnyH_ready (rs := [2]) (by kernel_rfl) (by simp) ?_
        refine AllReadyH.cons (o := _) rfl (fun KQ hKQ => ?_) AllReadyH.nil
        go_simp
        refine (HIN.out t6).mono ?_
        rintro e w' ⟨rfl, hw⟩
        rw [hw]
        clear hw
        refine hKQ.out _ _ HSY.out (fun _ => ?_)
        clear hKQ KQ HIN
        cases nm with
        | false =>
          have HNO : Hid (Tb.get b = none) := (show Tb.get b = none by
            rw [HG.out, HST.out.1, if_neg]
            · rfl
            · intro e
              have h := (Tb.okB_iff.1 e).2
              rw [HST.out.2, ← HNM.out] at h
              cases h)
          refine' take_at (i := 3) (d := 62) (v := _) rfl rfl (by kernel_rfl) (by kernel_rfl) (by kernel_rfl) (fun _ _ _ h => h) (Or.inl ⟨by rfl, ?h3⟩) (HSY.out) ?_
          case h3 =>
            intro w hSw
            clear hSw
            go_simp
            with_reducible rfl
          simp only [List.setIfInBounds_toArray, List.set_cons_zero, List.set_cons_succ]
          refine' take_at (i := 4) (d := 63) (v := _) rfl rfl (by kernel_rfl) (by kernel_rfl) (by kernel_rfl) (fun _ _ _ h => h) (Or.inl ⟨by rfl, ?h4⟩) (HSY.out) ?_
          case h4 =>
            intro w hSw
            clear hSw
            go_simp
            with_reducible rfl
          simp only [List.setIfInBounds_toArray, List.set_cons_zero, List.set_cons_succ]
          refine' take_at (i := 5) (d := 64) (v := undef) rfl rfl (by kernel_rfl) (by kernel_rfl) (by kernel_rfl) (fun _ _ _ h => h) (Or.inr ⟨by rfl, rfl⟩) (HSY.out) ?_
          simp only [List.setIfInBounds_toArray, List.set_cons_zero, List.set_cons_succ]
          refine' take_at (i := 6) (d := 65) (v := undef) rfl rfl (by kernel_rfl) (by kernel_rfl) (by kernel_rfl) (fun _ _ _ h => h) (Or.inr ⟨by rfl, rfl⟩) (HSY.out) ?_
          simp only [List.setIfInBounds_toArray, List.set_cons_zero, List.set_cons_succ]
          refine' take_at (i := 7) (d := 66) (v := undef) rfl rfl (by kernel_rfl) (by kernel_rfl) (by kernel_rfl) (fun _ _ _ h => h) (Or.inr ⟨by rfl, rfl⟩) (HSY.out) ?_
          simp only [List.setIfInBounds_toArray, List.set_cons_zero, List.set_cons_succ]
          refine' take_at (i := 8) (d := 67) (v := undef) rfl rfl (by kernel_rfl) (by kernel_rfl) (by kernel_rfl) (fun _ _ _ h => h) (Or.inr ⟨by rfl, rfl⟩) (HSY.out) ?_
          simp only [List.setIfInBounds_toArray, List.set_cons_zero, List.set_cons_succ]
          refine' take_at (i := 9) (d := 68) (v := _) rfl rfl (by kernel_rfl) (by kernel_rfl) (by kernel_rfl) (fun _ _ _ h => h) (Or.inl ⟨by rfl, ?h9⟩) (HSY.out) ?_
          case h9 =>
            intro w hSw
            clear hSw
            go_simp
            with_reducible rfl
          simp only [List.setIfInBounds_toArray, List.set_cons_zero, List.set_cons_succ]
          refine' take_at (i := 10) (d := 69) (v := _) rfl rfl (by kernel_rfl) (by kernel_rfl) (by kernel_rfl) (fun _ _ _ h => h) (Or.inl ⟨by rfl, ?h10⟩) (HSY.out) ?_
          case h10 =>
            intro w hSw
            clear hSw
            go_simp
            with_reducible rfl
          simp only [List.setIfInBounds_toArray, List.set_cons_zero, List.set_cons_succ]
          refine' take_at (i := 11) (d := 70) (v := undef) rfl rfl (by kernel_rfl) (by kernel_rfl) (by kernel_rfl) (fun _ _ _ h => h) (Or.inr ⟨by rfl, rfl⟩) (HSY.out) ?_
          simp only [List.setIfInBounds_toArray, List.set_cons_zero, List.set_cons_succ]
          refine' take_at (i := 12) (d := 71) (v := undef) rfl rfl (by kernel_rfl) (by kernel_rfl) (by kernel_rfl) (fun _ _ _ h => h) (Or.inr ⟨by rfl, rfl⟩) (HSY.out) ?_
          simp only [List.setIfInBounds_toArray, List.set_cons_zero, List.set_cons_succ]
          refine' take_at (i := 13) (d := 72) (v := undef) rfl rfl (by kernel_rfl) (by kernel_rfl) (by kernel_rfl) (fun _ _ _ h => h) (Or.inr ⟨by rfl, rfl⟩) (HSY.out) ?_
          simp only [List.setIfInBounds_toArray, List.set_cons_zero, List.set_cons_succ]
          refine' take_at (i := 14) (d := 73) (v := undef) rfl rfl (by kernel_rfl) (by kernel_rfl) (by kernel_rfl) (fun _ _ _ h => h) (Or.inr ⟨by rfl, rfl⟩) (HSY.out) ?_
          simp only [List.setIfInBounds_toArray, List.set_cons_zero, List.set_cons_succ]
          refine' take_at (i := 15) (d := 74) (v := undef) rfl rfl (by kernel_rfl) (by kernel_rfl) (by kernel_rfl) (fun _ _ _ h => h) (Or.inr ⟨by rfl, rfl⟩) (HSY.out) ?_
          simp only [List.setIfInBounds_toArray, List.set_cons_zero, List.set_cons_succ]
          refine' take_at (i := 16) (d := 75) (v := undef) rfl rfl (by kernel_rfl) (by kernel_rfl) (by kernel_rfl) (fun _ _ _ h => h) (Or.inr ⟨by rfl, rfl⟩) (HSY.out) ?_
          simp only [List.setIfInBounds_toArray, List.set_cons_zero, List.set_cons_succ]
          refine' take_at (i := 17) (d := 76) (v := undef) rfl rfl (by kernel_rfl) (by kernel_rfl) (by kernel_rfl) (fun _ _ _ h => h) (Or.inr ⟨by rfl, rfl⟩) (HSY.out) ?_
          simp only [List.setIfInBounds_toArray, List.set_cons_zero, List.set_cons_succ]
          refine' take_at (i := 18) (d := 77) (v := _) rfl rfl (by kernel_rfl) (by kernel_rfl) (by kernel_rfl) (fun _ _ _ h => h) (Or.inl ⟨by rfl, ?h18⟩) (HSY.out) ?_
          case h18 =>
            intro w hSw
            clear hSw
            go_simp
            with_reducible rfl
          simp only [List.setIfInBounds_toArray, List.set_cons_zero, List.set_cons_succ]
          refine wpAnyH_done (by kernel_rfl) ?_ _
          go_wp2
          go_ret2
          exact GrP.no _ HNO.out G6.out.1.below
        | true =>
        refine' take_at (i := 3) (d := 62) (v := _) rfl rfl (by kernel_rfl) (by kernel_rfl) (by kernel_rfl) (fun _ _ _ h => h) (Or.inl ⟨by rfl, ?h3⟩) (HSY.out) ?_
        case h3 =>
          intro w hSw
          clear hSw
          go_simp
          with_reducible rfl
        simp only [List.setIfInBounds_toArray, List.set_cons_zero, List.set_cons_succ]
        refine' take_at (i := 4) (d := 63) (v := _) rfl rfl (by kernel_rfl) (by kernel_rfl) (by kernel_rfl) (fun _ _ _ h => h) (Or.inl ⟨by rfl, ?h4⟩) (HSY.out) ?_
        case h4 =>
          intro w hSw
          clear hSw
          go_simp
          with_reducible rfl
        simp only [List.setIfInBounds_toArray, List.set_cons_zero, List.set_cons_succ]
        have hL3 := Tb.leq_cases x.top last
        rcases hL3 with ⟨l1, l2, l3, l4⟩ | ⟨l1, l2, l3, l4⟩ | ⟨l1, l2, l3, l4⟩
        · have HNO : Hid (Tb.get b = none) := (show Tb.get b = none by
            rw [HG.out, HST.out.1, if_neg]
            · rfl
            · intro e
              have h := (Tb.okB_iff.1 e).1
              rw [HST.out.2, l4] at h
              cases h)
          refine' take_at (i := 5) (d := 64) (v := _) rfl rfl (by kernel_rfl) (by kernel_rfl) (by kernel_rfl) (fun _ _ _ h => h) (Or.inl ⟨by rfl, ?h5⟩) (HSY.out) ?_
          case h5 =>
            intro w hSw
            obtain ⟨t0, t1, t2⟩ := hSw
            go_simp
            with_reducible rfl
          simp only [List.setIfInBounds_toArray, List.set_cons_zero, List.set_cons_succ]
          refine' take_at (i := 6) (d := 65) (v := _) rfl rfl (by kernel_rfl) (by kernel_rfl) (by kernel_rfl) (fun _ _ _ h => h) (Or.inl ⟨by rfl, ?h6⟩) (HSY.out) ?_
          case h6 =>
            intro w hSw
            obtain ⟨t0, t1, t2⟩ := hSw
            go_simp
            with_reducible rfl
          simp only [List.setIfInBounds_toArray, List.set_cons_zero, List.set_cons_succ]
          refine' take_at (i := 7) (d := 66) (v := _) rfl rfl (by kernel_rfl) (by kernel_rfl) (by kernel_rfl) (fun _ _ _ h => h) (Or.inl ⟨by rfl, ?h7⟩) (HSY.out) ?_
          case h7 =>
            intro w hSw
            obtain ⟨t0, t1, t2⟩ := hSw
            go_simp
            with_reducible rfl
          simp only [List.setIfInBounds_toArray, List.set_cons_zero, List.set_cons_succ]
          refine' take_at (i := 8) (d := 67) (v := _) rfl rfl (by kernel_rfl) (by kernel_rfl) (by kernel_rfl) (fun _ _ _ h => h) (Or.inl ⟨by rfl, ?h8⟩) (HSY.out) ?_
          case h8 =>
            intro w hSw
            clear hSw
            go_simp
            with_reducible rfl
          simp only [List.setIfInBounds_toArray, List.set_cons_zero, List.set_cons_succ]
          refine' take_at (i := 9) (d := 68) (v := _) rfl rfl (by kernel_rfl) (by kernel_rfl) (by kernel_rfl) (fun _ _ _ h => h) (Or.inl ⟨by rfl, ?h9⟩) (HSY.out) ?_
          case h9 =>
            intro w hSw
            clear hSw
            go_simp
            with_reducible rfl
          simp only [List.setIfInBounds_toArray, List.set_cons_zero, List.set_cons_succ]
          refine' take_at (i := 10) (d := 69) (v := _) rfl rfl (by kernel_rfl) (by kernel_rfl) (by kernel_rfl) (fun _ _ _ h => h) (Or.inl ⟨by rfl, ?h10⟩) (HSY.out) ?_
          case h10 =>
            intro w hSw
            clear hSw
            go_simp
            with_reducible rfl
          simp only [List.setIfInBounds_toArray, List.set_cons_zero, List.set_cons_succ]
          refine' take_at (i := 11) (d := 70) (v := undef) rfl rfl (by kernel_rfl) (by kernel_rfl) (by kernel_rfl) (fun _ _ _ h => h) (Or.inr ⟨by rfl, rfl⟩) (HSY.out) ?_
          simp only [List.setIfInBounds_toArray, List.set_cons_zero, List.set_cons_succ]
          refine' take_at (i := 12) (d := 71) (v := undef) rfl rfl (by kernel_rfl) (by kernel_rfl) (by kernel_rfl) (fun _ _ _ h => h) (Or.inr ⟨by rfl, rfl⟩) (HSY.out) ?_
          simp only [List.setIfInBounds_toArray, List.set_cons_zero, List.set_cons_succ]
          refine' take_at (i := 13) (d := 72) (v := undef) rfl rfl (by kernel_rfl) (by kernel_rfl) (by kernel_rfl) (fun _ _ _ h => h) (Or.inr ⟨by rfl, rfl⟩) (HSY.out) ?_
          simp only [List.setIfInBounds_toArray, List.set_cons_zero, List.set_cons_succ]
          refine' take_at (i := 14) (d := 73) (v := undef) rfl rfl (by kernel_rfl) (by kernel_rfl) (by kernel_rfl) (fun _ _ _ h => h) (Or.inr ⟨by rfl, rfl⟩) (HSY.out) ?_
          simp only [List.setIfInBounds_toArray, List.set_cons_zero, List.set_cons_succ]
          refine' take_at (i := 15) (d := 74) (v := undef) rfl rfl (by kernel_rfl) (by kernel_rfl) (by kernel_rfl) (fun _ _ _ h => h) (Or.inr ⟨by rfl, rfl⟩) (HSY.out) ?_
          simp only [List.setIfInBounds_toArray, List.set_cons_zero, List.set_cons_succ]
          refine' take_at (i := 16) (d := 75) (v := undef) rfl rfl (by kernel_rfl) (by kernel_rfl) (by kernel_rfl) (fun _ _ _ h => h) (Or.inr ⟨by rfl, rfl⟩) (HSY.out) ?_
          simp only [List.setIfInBounds_toArray, List.set_cons_zero, List.set_cons_succ]
          refine' take_at (i := 17) (d := 76) (v := undef) rfl rfl (by kernel_rfl) (by kernel_rfl) (by kernel_rfl) (fun _ _ _ h => h) (Or.inr ⟨by rfl, rfl⟩) (HSY.out) ?_
          simp only [List.setIfInBounds_toArray, List.set_cons_zero, List.set_cons_succ]
          refine' take_at (i := 18) (d := 77) (v := _) rfl rfl (by kernel_rfl) (by kernel_rfl) (by kernel_rfl) (fun _ _ _ h => h) (Or.inl ⟨by rfl, ?h18⟩) (HSY.out) ?_
          case h18 =>
            intro w hSw
            clear hSw
            go_simp
            with_reducible rfl
          simp only [List.setIfInBounds_toArray, List.set_cons_zero, List.set_cons_succ]
          refine wpAnyH_done (by kernel_rfl) ?_ _
          go_wp2
          go_ret2
          exact GrP.no _ HNO.out G6.out.1.below
        · have HNO : Hid (Tb.get b = none) := (show Tb.get b = none by
            rw [HG.out, HST.out.1, if_neg]
            · rfl
            · intro e
              have h := (Tb.okB_iff.1 e).1
              rw [HST.out.2, l4] at h
              cases h)
          refine' take_at (i := 5) (d := 64) (v := _) rfl rfl (by kernel_rfl) (by kernel_rfl) (by kernel_rfl) (fun _ _ _ h => h) (Or.inl ⟨by rfl, ?h5⟩) (HSY.out) ?_
          case h5 =>
            intro w hSw
            obtain ⟨t0, t1, t2⟩ := hSw
            go_simp
            with_reducible rfl
          simp only [List.setIfInBounds_toArray, List.set_cons_zero, List.set_cons_succ]
          refine' take_at (i := 6) (d := 65) (v := _) rfl rfl (by kernel_rfl) (by kernel_rfl) (by kernel_rfl) (fun _ _ _ h => h) (Or.inl ⟨by rfl, ?h6⟩) (HSY.out) ?_
          case h6 =>
            intro w hSw
            obtain ⟨t0, t1, t2⟩ := hSw
            go_simp
            with_reducible rfl
          simp only [List.setIfInBounds_toArray, List.set_cons_zero, List.set_cons_succ]
          refine' take_at (i := 7) (d := 66) (v := _) rfl rfl (by kernel_rfl) (by kernel_rfl) (by kernel_rfl) (fun _ _ _ h => h) (Or.inl ⟨by rfl, ?h7⟩) (HSY.out) ?_
          case h7 =>
            intro w hSw
            obtain ⟨t0, t1, t2⟩ := hSw
            go_simp
            with_reducible rfl
          simp only [List.setIfInBounds_toArray, List.set_cons_zero, List.set_cons_succ]
          refine' take_at (i := 8) (d := 67) (v := _) rfl rfl (by kernel_rfl) (by kernel_rfl) (by kernel_rfl) (fun _ _ _ h => h) (Or.inl ⟨by rfl, ?h8⟩) (HSY.out) ?_
          case h8 =>
            intro w hSw
            clear hSw
            go_simp
            with_reducible rfl
          simp only [List.setIfInBounds_toArray, List.set_cons_zero, List.set_cons_succ]
          refine' take_at (i := 9) (d := 68) (v := _) rfl rfl (by kernel_rfl) (by kernel_rfl) (by kernel_rfl) (fun _ _ _ h => h) (Or.inl ⟨by rfl, ?h9⟩) (HSY.out) ?_
          case h9 =>
            intro w hSw
            clear hSw
            go_simp
            with_reducible rfl
          simp only [List.setIfInBounds_toArray, List.set_cons_zero, List.set_cons_succ]
          refine' take_at (i := 10) (d := 69) (v := _) rfl rfl (by kernel_rfl) (by kernel_rfl) (by kernel_rfl) (fun _ _ _ h => h) (Or.inl ⟨by rfl, ?h10⟩) (HSY.out) ?_
          case h10 =>
            intro w hSw
            clear hSw
            go_simp
            with_reducible rfl
          simp only [List.setIfInBounds_toArray, List.set_cons_zero, List.set_cons_succ]
          refine' take_at (i := 11) (d := 70) (v := undef) rfl rfl (by kernel_rfl) (by kernel_rfl) (by kernel_rfl) (fun _ _ _ h => h) (Or.inr ⟨by rfl, rfl⟩) (HSY.out) ?_
          simp only [List.setIfInBounds_toArray, List.set_cons_zero, List.set_cons_succ]
          refine' take_at (i := 12) (d := 71) (v := undef) rfl rfl (by kernel_rfl) (by kernel_rfl) (by kernel_rfl) (fun _ _ _ h => h) (Or.inr ⟨by rfl, rfl⟩) (HSY.out) ?_
          simp only [List.setIfInBounds_toArray, List.set_cons_zero, List.set_cons_succ]
          refine' take_at (i := 13) (d := 72) (v := undef) rfl rfl (by kernel_rfl) (by kernel_rfl) (by kernel_rfl) (fun _ _ _ h => h) (Or.inr ⟨by rfl, rfl⟩) (HSY.out) ?_
          simp only [List.setIfInBounds_toArray, List.set_cons_zero, List.set_cons_succ]
          refine' take_at (i := 14) (d := 73) (v := undef) rfl rfl (by kernel_rfl) (by kernel_rfl) (by kernel_rfl) (fun _ _ _ h => h) (Or.inr ⟨by rfl, rfl⟩) (HSY.out) ?_
          simp only [List.setIfInBounds_toArray, List.set_cons_zero, List.set_cons_succ]
          refine' take_at (i := 15) (d := 74) (v := undef) rfl rfl (by kernel_rfl) (by kernel_rfl) (by kernel_rfl) (fun _ _ _ h => h) (Or.inr ⟨by rfl, rfl⟩) (HSY.out) ?_
          simp only [List.setIfInBounds_toArray, List.set_cons_zero, List.set_cons_succ]
          refine' take_at (i := 16) (d := 75) (v := undef) rfl rfl (by kernel_rfl) (by kernel_rfl) (by kernel_rfl) (fun _ _ _ h => h) (Or.inr ⟨by rfl, rfl⟩) (HSY.out) ?_
          simp only [List.setIfInBounds_toArray, List.set_cons_zero, List.set_cons_succ]
          refine' take_at (i := 17) (d := 76) (v := undef) rfl rfl (by kernel_rfl) (by kernel_rfl) (by kernel_rfl) (fun _ _ _ h => h) (Or.inr ⟨by rfl, rfl⟩) (HSY.out) ?_
          simp only [List.setIfInBounds_toArray, List.set_cons_zero, List.set_cons_succ]
          refine' take_at (i := 18) (d := 77) (v := _) rfl rfl (by kernel_rfl) (by kernel_rfl) (by kernel_rfl) (fun _ _ _ h => h) (Or.inl ⟨by rfl, ?h18⟩) (HSY.out) ?_
          case h18 =>
            intro w hSw
            clear hSw
            go_simp
            with_reducible rfl
          simp only [List.setIfInBounds_toArray, List.set_cons_zero, List.set_cons_succ]
          refine wpAnyH_done (by kernel_rfl) ?_ _
          go_wp2
          go_ret2
          exact GrP.no _ HNO.out G6.out.1.below
        have HL4 : Hid (Kq.lt last x.top = true) := l4
        refine' take_at (i := 5) (d := 64) (v := _) rfl rfl (by kernel_rfl) (by kernel_rfl) (by kernel_rfl) (fun _ _ _ h => h) (Or.inl ⟨by rfl, ?h5⟩) (HSY.out) ?_
        case h5 =>
          intro w hSw
          obtain ⟨t0, t1, t2⟩ := hSw
          go_simp
          with_reducible rfl
        simp only [List.setIfInBounds_toArray, List.set_cons_zero, List.set_cons_succ]
        refine' take_at (i := 6) (d := 65) (v := _) rfl rfl (by kernel_rfl) (by kernel_rfl) (by kernel_rfl) (fun _ _ _ h => h) (Or.inl ⟨by rfl, ?h6⟩) (HSY.out) ?_
        case h6 =>
          intro w hSw
          obtain ⟨t0, t1, t2⟩ := hSw
          go_simp
          with_reducible rfl
        simp only [List.setIfInBounds_toArray, List.set_cons_zero, List.set_cons_succ]
        refine' take_at (i := 7) (d := 66) (v := _) rfl rfl (by kernel_rfl) (by kernel_rfl) (by kernel_rfl) (fun _ _ _ h => h) (Or.inl ⟨by rfl, ?h7⟩) (HSY.out) ?_
        case h7 =>
          intro w hSw
          obtain ⟨t0, t1, t2⟩ := hSw
          go_simp
          with_reducible rfl
        simp only [List.setIfInBounds_toArray, List.set_cons_zero, List.set_cons_succ]
        refine' take_at (i := 8) (d := 67) (v := _) rfl rfl (by kernel_rfl) (by kernel_rfl) (by kernel_rfl) (fun _ _ _ h => h) (Or.inl ⟨by rfl, ?h8⟩) (HSY.out) ?_
        case h8 =>
          intro w hSw
          clear hSw
          go_simp
          with_reducible rfl
        simp only [List.setIfInBounds_toArray, List.set_cons_zero, List.set_cons_succ]
        refine' take_at (i := 9) (d := 68) (v := _) rfl rfl (by kernel_rfl) (by kernel_rfl) (by kernel_rfl) (fun _ _ _ h => h) (Or.inl ⟨by rfl, ?h9⟩) (HSY.out) ?_
        case h9 =>
          intro w hSw
          clear hSw
          go_simp
          with_reducible rfl
        simp only [List.setIfInBounds_toArray, List.set_cons_zero, List.set_cons_succ]
        refine' take_at (i := 10) (d := 69) (v := _) rfl rfl (by kernel_rfl) (by kernel_rfl) (by kernel_rfl) (fun _ _ _ h => h) (Or.inl ⟨by rfl, ?h10⟩) (HSY.out) ?_
        case h10 =>
          intro w hSw
          clear hSw
          go_simp
          with_reducible rfl
        simp only [List.setIfInBounds_toArray, List.set_cons_zero, List.set_cons_succ]
        refine' take_at (i := 11) (d := 70) (v := _) rfl rfl (by kernel_rfl) (by kernel_rfl) (by kernel_rfl) (fun _ _ _ h => h) (Or.inl ⟨by rfl, ?h11⟩) (HSY.out) ?_
        case h11 =>
          intro w hSw
          obtain ⟨t0, t1, t2⟩ := hSw
          go_simp
          with_reducible rfl
        simp only [List.setIfInBounds_toArray, List.set_cons_zero, List.set_cons_succ]
        refine' take_at (i := 12) (d := 71) (v := _) rfl rfl (by kernel_rfl) (by kernel_rfl) (by kernel_rfl) (fun _ _ _ h => h) (Or.inl ⟨by rfl, ?h12⟩) (HSY.out) ?_
        case h12 =>
          intro w hSw
          obtain ⟨t0, t1, t2⟩ := hSw
          go_simp
          with_reducible rfl
        simp only [List.setIfInBounds_toArray, List.set_cons_zero, List.set_cons_succ]
        refine' take_at (i := 13) (d := 72) (v := _) rfl rfl (by kernel_rfl) (by kernel_rfl) (by kernel_rfl) (fun _ _ _ h => h) (Or.inl ⟨by rfl, ?h13⟩) (HSY.out) ?_
        case h13 =>
          intro w hSw
          obtain ⟨t0, t1, t2⟩ := hSw
          go_simp
          with_reducible rfl
        simp only [List.setIfInBounds_toArray, List.set_cons_zero, List.set_cons_succ]
        refine' take_at (i := 14) (d := 73) (v := _) rfl rfl (by kernel_rfl) (by kernel_rfl) (by kernel_rfl) (fun _ _ _ h => h) (Or.inl ⟨by rfl, ?h14⟩) (HSY.out) ?_
        case h14 =>
          intro w hSw
          obtain ⟨t0, t1, t2⟩ := hSw
          go_simp
          with_reducible rfl
        simp only [List.setIfInBounds_toArray, List.set_cons_zero, List.set_cons_succ]
        refine' take_at (i := 15) (d := 74) (v := _) rfl rfl (by kernel_rfl) (by kernel_rfl) (by kernel_rfl) (fun _ _ _ h => h) (Or.inl ⟨by rfl, ?h15⟩) (HSY.out) ?_
        case h15 =>
          intro w hSw
          obtain ⟨t0, t1, t2⟩ := hSw
          go_simp
          with_reducible rfl
        simp only [List.setIfInBounds_toArray, List.set_cons_zero, List.set_cons_succ]
        refine' take_at (i := 16) (d := 75) (v := _) rfl rfl (by kernel_rfl) (by kernel_rfl) (by kernel_rfl) (fun _ _ _ h => h) (Or.inl ⟨by rfl, ?h16⟩) (HSY.out) ?_
        case h16 =>
          intro w hSw
          obtain ⟨t0, t1, t2⟩ := hSw
          go_simp
          with_reducible rfl
        simp only [List.setIfInBounds_toArray, List.set_cons_zero, List.set_cons_succ]
        by_cases g1 : z ≤ x.shard
        · have HNO : Hid (Tb.get b = none) := (show Tb.get b = none by
            have h := HUP.out.2 (by omega)
            rw [HG.out, HST.out.1]
            split
            · rw [h]
              exact Tb.fin_true _ _ _ _
            · rfl)
          refine' take_at (i := 17) (d := 76) (v := _) rfl rfl (by kernel_rfl) (by kernel_rfl) (by kernel_rfl) (fun _ _ _ h => h) (Or.inl ⟨by rfl, ?h17⟩) (HSY.out) ?_
          case h17 =>
            intro w hSw
            clear hSw
            go_simp
            with_reducible rfl
          simp only [List.setIfInBounds_toArray, List.set_cons_zero, List.set_cons_succ]
          refine' take_at (i := 18) (d := 77) (v := _) rfl rfl (by kernel_rfl) (by kernel_rfl) (by kernel_rfl) (fun _ _ _ h => h) (Or.inl ⟨by rfl, ?h18⟩) (HSY.out) ?_
          case h18 =>
            intro w hSw
            clear hSw
            go_simp
            with_reducible rfl
          simp only [List.setIfInBounds_toArray, List.set_cons_zero, List.set_cons_succ]
          refine wpAnyH_done (by kernel_rfl) ?_ _
          go_wp2
          go_ret2
          exact GrP.no _ HNO.out G6.out.1.below
        have HYES : Hid (Tb.fin z z1 (Tb.rdL (z - 1) K [] ⟨#[]⟩ cl.2.1 cl.2.2) = Tb.fin z z1 (Tb.rdL (z - 1) (K - (k + 1)) (acc ++ [x]) x.top n2.2.1 n2.2.2)) := (show Tb.fin z z1 (Tb.rdL (z - 1) K [] ⟨#[]⟩ cl.2.1 cl.2.2) = Tb.fin z z1 (Tb.rdL (z - 1) (K - (k + 1)) (acc ++ [x]) x.top n2.2.1 n2.2.2) by
          have h := HUP.out.1 (by omega)
          rw [HST.out.1, h, if_pos (Tb.okB_iff.2 ⟨HL4.out, HNM.out.symm⟩)])
        refine' take_at (i := 17) (d := 76) (v := _) rfl rfl (by kernel_rfl) (by kernel_rfl) (by kernel_rfl) (fun _ _ _ h => h) (Or.inl ⟨by rfl, ?h17⟩) (HSY.out) ?_
        case h17 =>
          intro w hSw
          clear hSw
          go_simp
          with_reducible rfl
        simp only [List.setIfInBounds_toArray, List.set_cons_zero, List.set_cons_succ]
        refine' take_at (i := 18) (d := 77) (v := _) rfl rfl (by kernel_rfl) (by kernel_rfl) (by kernel_rfl) (fun _ _ _ h => h) (Or.inl ⟨by rfl, ?h18⟩) (HSY.out) ?_
        case h18 =>
          intro w hSw
          clear hSw
          go_simp
          with_reducible rfl
        simp only [List.setIfInBounds_toArray, List.set_cons_zero, List.set_cons_succ]
        refine wpAnyH_done (by kernel_rfl) ?_ _
        clear l1 l2 l3 l4 g1 HSY
        have d0 : t6.cell? ⟨xb, 0, none⟩ = some (.string x.top) := G6.out.2.1.cell 0
        go_upto_region 14 with fail
        clear d0
        refine wp_region_T (fun w' => w'.cell? ⟨xb, 0, none⟩ = some (.string x.top) ∧ w'.cell? ⟨xb, 1, none⟩ = some (.int .i64 x.shard) ∧ w'.cell? ⟨q, 2, none⟩ = some (Value.slice va M vc)) 10 (by kernel_rfl) ?_
        have G7 : Hid (Gr16 w t6.drew r (.slice ao n cc) b n2.2.1 n2.2.2 q ⟨z, z1, acc⟩ (Value.slice va M vc) ∧ Cb t6.drew xb (mc x) 74 ∧ ¬ Ft16 (Value.slice va M vc) q xb) := ⟨G6.out.1.later (Below.refl _ _).drew, G6.out.2.1.below (Below.refl _ _).drew, G6.out.2.2⟩
        clear G6
        generalize t6.drew = t7 at *
        have HSY : Hid ((fun w' : World => w'.cell? ⟨xb, 0, none⟩ = some (.string x.top) ∧ w'.cell? ⟨xb, 1, none⟩ = some (.int .i64 x.shard) ∧ w'.cell? ⟨q, 2, none⟩ = some (Value.slice va M vc)) t7) := ⟨G7.out.2.1.cell 0, G7.out.2.1.cell 1, G7.out.1.se.blk.cell 2⟩
        refine' take_T (i := 0) (d := 80) (v := _) rfl rfl (by kernel_rfl) (by kernel_rfl) (by kernel_rfl) (by kernel_rfl) (by kernel_rfl) (fun _ _ _ h => h) (Or.inl ⟨by rfl, ?h0⟩) (HSY.out) ?_
        case h0 =>
          intro w hSw
          obtain ⟨t0, t1, t2⟩ := hSw
          go_simp
          with_reducible rfl
        simp only [List.setIfInBounds_toArray, List.set_cons_zero, List.set_cons_succ]
        refine' take_T (i := 1) (d := 81) (v := _) rfl rfl (by kernel_rfl) (by kernel_rfl) (by kernel_rfl) (by kernel_rfl) (by kernel_rfl) (fun _ _ _ h => h) (Or.inl ⟨by rfl, ?h1⟩) (HSY.out) ?_
        case h1 =>
          intro w hSw
          obtain ⟨t0, t1, t2⟩ := hSw
          go_simp
          with_reducible rfl
        simp only [List.setIfInBounds_toArray, List.set_cons_zero, List.set_cons_succ]
        refine' take_T (i := 2) (d := 82) (v := _) rfl rfl (by kernel_rfl) (by kernel_rfl) (by kernel_rfl) (by kernel_rfl) (by kernel_rfl) (fun _ _ _ h => h) (Or.inl ⟨by rfl, ?h2⟩) (HSY.out) ?_
        case h2 =>
          intro w hSw
          obtain ⟨t0, t1, t2⟩ := hSw
          go_simp
          with_reducible rfl
        simp only [List.setIfInBounds_toArray, List.set_cons_zero, List.set_cons_succ]
        refine' take_T (i := 3) (d := 83) (v := _) rfl rfl (by kernel_rfl) (by kernel_rfl) (by kernel_rfl) (by kernel_rfl) (by kernel_rfl) (fun _ _ _ h => h) (Or.inl ⟨by rfl, ?h3⟩) (HSY.out) ?_
        case h3 =>
          intro w hSw
          obtain ⟨t0, t1, t2⟩ := hSw
          go_simp
          with_reducible rfl
        simp only [List.setIfInBounds_toArray, List.set_cons_zero, List.set_cons_succ]
        refine' take_T (i := 4) (d := 84) (v := _) rfl rfl (by kernel_rfl) (by kernel_rfl) (by kernel_rfl) (by kernel_rfl) (by kernel_rfl) (fun _ _ _ h => h) (Or.inl ⟨by rfl, ?h4⟩) (HSY.out) ?_
        case h4 =>
          intro w hSw
          obtain ⟨t0, t1, t2⟩ := hSw
          go_simp
          with_reducible rfl
        simp only [List.setIfInBounds_toArray, List.set_cons_zero, List.set_cons_succ]
        refine' take_T (i := 5) (d := 85) (v := _) rfl rfl (by kernel_rfl) (by kernel_rfl) (by kernel_rfl) (by kernel_rfl) (by kernel_rfl) (fun _ _ _ h => h) (Or.inl ⟨by rfl, ?h5⟩) (HSY.out) ?_
        case h5 =>
          intro w hSw
          obtain ⟨t0, t1, t2⟩ := hSw
          go_simp
          with_reducible rfl
        simp only [List.setIfInBounds_toArray, List.set_cons_zero, List.set_cons_succ]
        refine wpAnyT_ready (rs := [6]) (by kernel_rfl) (by simp) ?_
        refine AllReadyT.cons (o := _) rfl (fun KQ hKQ => ?_) AllReadyT.nil
        go_simp
        obtain ⟨sb, hsb⟩ : ∃ z, z = t7.heap.size := ⟨_, rfl⟩
        rw [← hsb]
        have G8 : Hid (Gr16 w (t7.alloc (.cells #[.string x.top, .int .i64 x.shard] 74)) r (.slice ao n cc) b n2.2.1 n2.2.2 q ⟨z, z1, acc⟩ (Value.slice va M vc) ∧ (Cb (t7.alloc (.cells #[.string x.top, .int .i64 x.shard] 74)) xb (mc x) 74 ∧ ¬ Ft16 (Value.slice va M vc) q xb) ∧ Cb (t7.alloc (.cells #[.string x.top, .int .i64 x.shard] 74)) sb (mc x) 74) := by
          have hbl := (Below.refl _ t7).alloc (Nat.le_refl _) (.cells #[.string x.top, .int .i64 x.shard] 74)
          rw [hsb]
          exact ⟨G7.out.1.later hbl, ⟨G7.out.2.1.below hbl, G7.out.2.2⟩, Cb.made t7 (mc x) _⟩
        clear HSY G7 hsb
        generalize (t7.alloc (.cells #[.string x.top, .int .i64 x.shard] 74)) = t8 at *
        refine hKQ.out _ _ (fun _ => ⟨G8.out.2.1.1.cell 0, G8.out.2.1.1.cell 1, G8.out.1.se.blk.cell 2⟩) ?_
        clear hKQ KQ
        refine wpAnyT_ready (rs := [7]) (by kernel_rfl) (by simp) ?_
        refine AllReadyT.cons (o := _) rfl (fun KQ hKQ => ?_) AllReadyT.nil
        refine wp_mc16 infoMr Tryd.underlying44 _ _ rfl 0 (Value.slice va M vc) (.slice (some ⟨sb, 0, none⟩) 1 1) acc [x] t8 rfl rfl G8.out.1.se.row (Nat.zero_le _) (Smc.one G8.out.2.2) (by have := HM.out; simp only [List.length_singleton]; omega) ?_
        intro v9 t9 hr9 hb9 hg9 hv9
        have G9 : Hid (Cb t9 q [.int .i64 z, .int .i64 z1, (Value.slice va M vc)] 46 ∧ Gr16 w (t9.setCell ⟨q, 2, none⟩ v9) r (.slice ao n cc) b n2.2.1 n2.2.2 q ⟨z, z1, acc ++ [x]⟩ v9 ∧ Cb t9 xb (mc x) 74) := by
          have hap := G8.out.1.se.blk.apart G8.out.1.se.row (by decide)
          have hq : Cb t9 q [.int .i64 z, .int .i64 z1, (Value.slice va M vc)] 46 := G8.out.1.se.blk.keep (hg9.block q G8.out.1.se.blk.lt (fun e => hap e.symm))
          have hx9 : Cb t9 xb (mc x) 74 := G8.out.2.1.1.keep (hg9.block xb G8.out.2.1.1.lt (fun e => G8.out.2.1.2 (Or.inl e.symm)))
          have hg := grownBy_setCell t9 ⟨q, 2, none⟩ v9
          have hap9 : v9.ownBlock ≠ some q := hq.apart hr9 (by decide)
          have hrq := G8.out.1.hi q (Or.inr rfl)
          have hlo := G8.out.1.lo
          have hrf9 : Pw.Rf t9 r (.slice ao n cc) b n2.2.1 n2.2.2 := by
            cases ho : ((Value.slice va M vc)).ownBlock with
            | none =>
              rw [ho] at hg9
              exact Rf.on16 G8.out.1.rf hlo G8.out.1.vlo (k := t8.heap.size) ⟨hg9.os, hg9.tape, hg9.output, hg9.size, fun i hi _ => hg9.block i hi (by simp)⟩ (Rf.lt16 G8.out.1.rf)
            | some g =>
              rw [ho] at hg9
              exact Rf.on16 G8.out.1.rf hlo G8.out.1.vlo hg9 (G8.out.1.hi g (Or.inl ho))
          have hbe : Below w.heap.size w t9 := G8.out.1.below.grown hg9 G8.out.1.below.size (fun k hk => by have := G8.out.1.hi k (Or.inl hk); omega)
          refine ⟨hq, ⟨Rf.on16 hrf9 hlo G8.out.1.vlo hg hrq, hlo, G8.out.1.vlo, ⟨hq.set 2 _, ?_⟩, fun k hk => ?_, hbe.grown hg hbe.size (fun k hk => by simp at hk; omega)⟩, hx9⟩
          · exact row_stays hr9 fun k hk => hg.block k (hr9.lt k hk).2 (fun e => hap9 (by rw [hk]; simpa using e))
          · rcases hk with hk | rfl
            · rcases hv9 with e | e
              · exact G8.out.1.hi k (Or.inl (by rw [← e]; exact hk))
              · rw [e] at hk
                simp only [Option.some.injEq] at hk
                have := Rf.lt16 G8.out.1.rf
                omega
            · exact hrq
        obtain ⟨a9, c9, e9, j1, j2⟩ := row_form hr9
        obtain ⟨M9, hM9⟩ : ∃ z, z = (acc ++ [x]).length := ⟨_, rfl⟩
        rw [← hM9] at e9
        subst e9
        clear hr9 hb9 hg9 hv9 j1 j2 hM9 G8
        refine hKQ.out _ _ (fun _ => ⟨G9.out.2.2.cell 0, G9.out.2.2.cell 1, G9.out.1.cell 2⟩) ?_
        clear hKQ KQ
        refine' take_T (i := 8) (d := 88) (v := _) rfl rfl (by kernel_rfl) (by kernel_rfl) (by kernel_rfl) (by kernel_rfl) (by kernel_rfl) (fun _ _ _ h => h) (Or.inl ⟨by rfl, ?h8⟩) (⟨G9.out.2.2.cell 0, G9.out.2.2.cell 1, G9.out.1.cell 2⟩) ?_
        case h8 =>
          intro w hSw
          go_simp
          with_reducible rfl
        simp only [List.setIfInBounds_toArray, List.set_cons_zero, List.set_cons_succ]
        refine' take_T (i := 9) (d := 89) (v := _) rfl rfl (by kernel_rfl) (by kernel_rfl) (by kernel_rfl) (by kernel_rfl) (by kernel_rfl) (fun _ _ _ h => h) (Or.inl ⟨by rfl, ?h9⟩) (⟨G9.out.2.2.cell 0, G9.out.2.2.cell 1, G9.out.1.cell 2⟩) ?_
        case h9 =>
          intro w hSw
          go_simp
          with_reducible rfl
        simp only [List.setIfInBounds_toArray, List.set_cons_zero, List.set_cons_succ]
        refine wpAnyT_ready (rs := [10]) (by kernel_rfl) (by simp) ?_
        refine AllReadyT.cons (o := _) rfl (fun KQ hKQ => ?_) AllReadyT.nil
        have y3 : t9.cell? ⟨q, 2, none⟩ = some (Value.slice va M vc) := G9.out.1.cell 2
        have f3 := G9.out.1.free 2
        go_simp
        clear y3 f3
        have G10 : Hid (Gr16 w (t9.setCell ⟨q, 2, none⟩ (.slice a9 M9 c9)) r (.slice ao n cc) b n2.2.1 n2.2.2 q ⟨z, z1, acc ++ [x]⟩ (.slice a9 M9 c9)) := G9.out.2.1
        clear G9
        generalize t9.setCell ⟨q, 2, none⟩ (.slice a9 M9 c9) = t10 at *
        refine hKQ.out _ _ (fun h => absurd rfl h) ?_
        clear hKQ KQ
        refine wpAnyT_done (by kernel_rfl) ?_ _
        go_wp2
        go_roundw
        case rel => exact ⟨k + 1, acc ++ [x], x.top, _, _, _, by omega, by go_num, rfl, by rw [List.length_append, H7.out.2.1]; rfl, G10.out, HYES.out⟩
        case measure => simp [intOf]; omega
    · have hlt' : ¬ (k : Int) < (K : Int) := by omega
      obtain rfl : k = K := by omega
      have HTT : Hid (Tb.get b = Tb.fin z z1 (some (acc, ys, bd))) := (show Tb.get b = Tb.fin z z1 (some (acc, ys, bd)) by
        have h := H7.out.2.2
        rw [Nat.sub_self] at h
        rw [HG.out, h]
        rfl)
      go_wp2_with fail
      refine (Pw.fEnd_any r _ b ys bd wr H7.out.1.rf).mono ?_
      rintro e wE ⟨rfl, nE, hwE⟩
      have HE : Hid (Below w.heap.size w wE) := by rw [hwE]; exact below_drewN H7.out.1.below _
      have HLE : Hid (Lr16 wE q ⟨z, z1, acc⟩ v') := by rw [hwE]; exact H7.out.1.se.later (below_drewN (Below.refl _ _) _)
      clear hwE
      obtain ⟨eb, heb⟩ : ∃ x, x = (!bd && ys.isEmpty) := ⟨_, rfl⟩
      rw [← heb]
      have HEB : Hid (eb = (!bd && ys.isEmpty)) := heb
      clear heb
      cases eb with
      | false =>
        have HNO : Hid (Tb.get b = none) := (show Tb.get b = none by
          rw [HTT.out]
          unfold Tb.fin
          simp only []
          rw [if_neg]
          rintro ⟨rfl, rfl, _⟩
          cases HEB.out)
        go_wp2
        go_ret2
        exact GrP.no _ HNO.out HE.out
      | true =>
        have HYS : Hid (Tb.get b = if Tb.verB z1 k = true then some ⟨z, z1, acc⟩ else none) := (show Tb.get b = if Tb.verB z1 k = true then some ⟨z, z1, acc⟩ else none by
          rw [HTT.out]
          have h := HEB.out
          have hal := H7.out.2.1
          cases bd with
          | true => cases h
          | false =>
            cases ys with
            | nil =>
              unfold Tb.fin
              simp only [hal, true_and]
            | cons y ys => cases h)
        have d1 : wE.cell? ⟨q, 1, none⟩ = some (.int .i64 z1) := HLE.out.blk.cell 1
        by_cases h0 : k = 0
        · have h0b : ((k : Int) == 0) = true := by simp [h0]
          by_cases h1 : z1 = 1
          · have h1b : (z1 != 1) = false := by simp [h1]
            have HV : Hid (Tb.verB z1 k = true) := (show Tb.verB z1 k = true by rw [HVR.out.1 h0]; simp [h1])
            clear h0 h1
            have HEN : Hid (GrP w (Tb.get b) (.returned (.tuple #[dptr q, .bool true])) wE) := by
              refine ⟨HE.out, fun e => (by rw [HYS.out, if_pos HV.out] at e; cases e), fun s' e => ?_⟩
              rw [HYS.out, if_pos HV.out] at e
              obtain rfl := Option.some.inj e
              exact ⟨q, _, rfl, ⟨v', HLE.out, rfl⟩, fun k hk => by have := H7.out.1.hi k hk; have := H7.out.1.lo; omega⟩
            go_wp2
            go_ret2
            exact HEN.out
          · have h1b : (z1 != 1) = true := by simp [h1]
            have HNO : Hid (Tb.get b = none) := (show Tb.get b = none by
              rw [HYS.out, HVR.out.1 h0, if_neg]
              simp [h1])
            clear h0 h1
            go_wp2
            go_ret2
            exact GrP.no _ HNO.out HE.out
        · have h0b : ((k : Int) == 0) = false := by simp [h0]
          have HV : Hid (Tb.verB z1 k = true) := HVR.out.2 h0
          clear h0
          have HEN : Hid (GrP w (Tb.get b) (.returned (.tuple #[dptr q, .bool true])) wE) := by
            refine ⟨HE.out, fun e => (by rw [HYS.out, if_pos HV.out] at e; cases e), fun s' e => ?_⟩
            rw [HYS.out, if_pos HV.out] at e
            obtain rfl := Option.some.inj e
            exact ⟨q, _, rfl, ⟨v', HLE.out, rfl⟩, fun k hk => by have := H7.out.1.hi k hk; have := H7.out.1.lo; omega⟩
          go_wp2
          go_ret2
          exact HEN.out
end Go.Proofs.YtpjdjobdbandhaaDoor
