/- StatBytes: its walk. -/
import Derived.Test.YtlgpjgncimcijaaRefG10
import Derived.Test.YtlgpjgncimcijaaLong10
import Derived.Test.YtlgpjgncimcijaaTakeAt
import Derived.Test.YtlgpjgncimcijaaOpenK10
namespace Go.Proofs.Ytlgpjgncimcijaa
open Go.RowKit

theorem Rf.start10 {w : World} {v : Value} {b : List UInt8} (hb : Bs w v b) (hN : b.length ≤ 100000) (t : TypeId) : Pw.Rf (w.alloc (.cells #[v, .int .i64 0, .bool false] t)) w.heap.size v b b false := by
  have hal := (Below.refl w.heap.size w).alloc (Nat.le_refl _) (.cells #[v, .int .i64 0, .bool false] t)
  refine ⟨⟨0, cell?_alloc_at _ _ _ _ _ _ rfl, Nat.zero_le _, fun _ => rfl⟩, cell?_alloc_at _ _ _ _ _ _ rfl, cell?_alloc_at _ _ _ _ _ _ rfl, by simp, by simp, hb.below hal, fun h e => ?_, fun e => (by cases e), by omega⟩
  obtain ⟨g, o, n, c, rfl, _, _, hc⟩ := hb.plain h
  have hlt := World.block_lt_of_cell? w _ (hc 0 b[0] (List.getElem?_eq_getElem h))
  simp only [Value.ownBlock, Option.some.injEq] at e
  simp only [] at hlt
  omega
theorem rdNs_len : ∀ (k : Nat) (ys : List UInt8) (bad : Bool), (Kq.rdNs k ys bad).1.length ≤ k
  | 0, _, _ => Nat.le_refl _
  | k + 1, ys, true => by rw [Kq.rdNs, if_pos rfl]; exact Nat.zero_le _
  | k + 1, ys, false => by
    rw [Kq.rdNs, if_neg (by simp)]
    have := rdNs_len k (Pk.rT 40 ys false).2.1 (Pk.rT 40 ys false).2.2
    simp only [List.length_cons]
    omega
theorem rC_to (ys : List UInt8) (bad : Bool) : (Pk.rC 500 ys bad).1.toNat ≤ 500 := by
  have := rC_in 500 ys bad (by decide)
  omega
theorem raw_len (ys : List UInt8) (bad : Bool) : (Kq.raw ys bad).1.names.length ≤ 500 := by
  unfold Kq.raw
  simp only []
  exact Nat.le_trans (rdNs_len _ _ _) (rC_to _ _)

/-- The two nodes, and what was read twice. -/
structure By10 (W w : World) (qn qm qx qy : Nat) (n m x : Kq.Kn) (un um ux uy : Value) : Prop where
  bn : Cb w qn (k10 n un) 27
  bm : Cb w qm (k10 m um) 27
  bx : Cb w qx (k10 x ux) 27
  yb : Cb w qy (k10 x uy) 40
  sn : Ss w un n.names
  sm : Ss w um m.names
  sx : Ss w ux x.names
  sy : Ss w uy x.names
  below : Below W.heap.size W w
theorem By10.later {W w w' : World} {qn qm qx qy : Nat} {n m x : Kq.Kn} {un um ux uy : Value} (h : By10 W w qn qm qx qy n m x un um ux uy) (hb : Below w.heap.size w w') : By10 W w' qn qm qx qy n m x un um ux uy :=
  ⟨h.bn.below hb, h.bm.below hb, h.bx.below hb, h.yb.below hb, h.sn.below hb, h.sm.below hb, h.sx.below hb, h.sy.below hb, h.below.trans (hb.mono h.below.size)⟩
theorem nm_form10 {w : World} {u : Value} {l : List ByteArray} (h : Nm w u l) : ∃ a c, u = .slice a l.length c := by
  rcases h with ⟨rfl, rfl⟩ | ⟨g, o, c, rfl, _⟩
  · exact ⟨_, _, rfl⟩
  · exact ⟨_, _, rfl⟩
theorem ss_form {w : World} {u : Value} {l : List ByteArray} (h : Ss w u l) : ∃ a c, u = .slice a l.length c := by
  obtain ⟨a, k, c, rfl, rfl, _⟩ := h
  exact ⟨a, c, rfl⟩

set_option maxRecDepth 20000 in
set_option maxHeartbeats 16000000 in
theorem bytes_any10 (S : Specs10) (SB : SpecB10) (n m : Kq.Kn) (un um vb : Value) (b : List UInt8) (W : World) (hn : Nm W un n.names) (hnk : KnOk n) (hm : Nm W um m.names) (hmk : KnOk m) (hb : Bs W vb b) (hbl : b.length ≤ maxLen) :
    Calls Try.prog 5 #[kv n un, kv m um, vb] W fun e w' => e = .returned (.bool true) ∧ Below W.heap.size W w' := by
  have HS : Hid Specs10 := S
  have HSB : Hid SpecB10 := SB
  obtain ⟨na, nc, hu⟩ := nm_form10 hn
  obtain ⟨nL, hnL⟩ : ∃ z, z = n.names.length := ⟨_, rfl⟩
  rw [← hnL] at hu
  subst hu
  obtain ⟨ma, mc, hu⟩ := nm_form10 hm
  obtain ⟨mL, hmL⟩ : ∃ z, z = m.names.length := ⟨_, rfl⟩
  rw [← hmL] at hu
  subst hu
  have HV : Hid (Bs W vb b) := hb
  obtain ⟨ba, bL, bc', rfl, hbL, hbsl⟩ := hb
  have HU : Hid (Nm W (.slice na nL nc) n.names ∧ KnOk n ∧ Nm W (.slice ma mL mc) m.names ∧ KnOk m) := ⟨hn, hnk, hm, hmk⟩
  have HBL : Hid (bL = b.length) := hbL
  have hbL1 : bL ≤ 9223372036854775807 := by unfold maxLen at hbl; omega
  clear S SB hn hnk hm hmk hnL hmL hbL hbsl hbl
  obtain ⟨qn, hqn⟩ : ∃ z, z = W.heap.size := ⟨_, rfl⟩
  obtain ⟨qm, hqm⟩ : ∃ z, z = W.heap.size + 1 := ⟨_, rfl⟩
  have H0 : Hid (Cb ((W.alloc (.cells #[.int .i64 n.made, .int .i64 n.changed, .int .i64 n.ver, .int .i64 n.kids, .int .i64 n.owner, .int .i64 n.len, .int .i64 n.cnt, .string n.data, .int .i64 n.next, .slice na nL nc] 27)).alloc (.cells #[.int .i64 m.made, .int .i64 m.changed, .int .i64 m.ver, .int .i64 m.kids, .int .i64 m.owner, .int .i64 m.len, .int .i64 m.cnt, .string m.data, .int .i64 m.next, .slice ma mL mc] 27)) qn (k10 n (.slice na nL nc)) 27 ∧ Cb ((W.alloc (.cells #[.int .i64 n.made, .int .i64 n.changed, .int .i64 n.ver, .int .i64 n.kids, .int .i64 n.owner, .int .i64 n.len, .int .i64 n.cnt, .string n.data, .int .i64 n.next, .slice na nL nc] 27)).alloc (.cells #[.int .i64 m.made, .int .i64 m.changed, .int .i64 m.ver, .int .i64 m.kids, .int .i64 m.owner, .int .i64 m.len, .int .i64 m.cnt, .string m.data, .int .i64 m.next, .slice ma mL mc] 27)) qm (k10 m (.slice ma mL mc)) 27 ∧ Below W.heap.size W ((W.alloc (.cells #[.int .i64 n.made, .int .i64 n.changed, .int .i64 n.ver, .int .i64 n.kids, .int .i64 n.owner, .int .i64 n.len, .int .i64 n.cnt, .string n.data, .int .i64 n.next, .slice na nL nc] 27)).alloc (.cells #[.int .i64 m.made, .int .i64 m.changed, .int .i64 m.ver, .int .i64 m.kids, .int .i64 m.owner, .int .i64 m.len, .int .i64 m.cnt, .string m.data, .int .i64 m.next, .slice ma mL mc] 27))) := by
    have hb1 := (Below.refl _ W).alloc (Nat.le_refl _) (.cells #[.int .i64 n.made, .int .i64 n.changed, .int .i64 n.ver, .int .i64 n.kids, .int .i64 n.owner, .int .i64 n.len, .int .i64 n.cnt, .string n.data, .int .i64 n.next, .slice na nL nc] 27)
    have h2 := Cb.made (W.alloc (.cells #[.int .i64 n.made, .int .i64 n.changed, .int .i64 n.ver, .int .i64 n.kids, .int .i64 n.owner, .int .i64 n.len, .int .i64 n.cnt, .string n.data, .int .i64 n.next, .slice na nL nc] 27)) (k10 m (.slice ma mL mc)) 27
    rw [World.size_alloc, ← hqm] at h2
    refine ⟨?_, h2, hb1.alloc hb1.size _⟩
    rw [hqn]
    exact (Cb.made W (k10 n (.slice na nL nc)) 27).below ((Below.refl _ _).alloc (Nat.le_refl _) _)
  unfold kv
  go_enter Try.func5, Try.ntmps5
  go_wp2_with fail
  rw [← hqm, ← hqn]
  clear hqm hqn
  generalize (W.alloc (.cells #[.int .i64 n.made, .int .i64 n.changed, .int .i64 n.ver, .int .i64 n.kids, .int .i64 n.owner, .int .i64 n.len, .int .i64 n.cnt, .string n.data, .int .i64 n.next, .slice na nL nc] 27)).alloc (.cells #[.int .i64 m.made, .int .i64 m.changed, .int .i64 m.ver, .int .i64 m.kids, .int .i64 m.owner, .int .i64 m.len, .int .i64 m.cnt, .string m.data, .int .i64 m.next, .slice ma mL mc] 27) = w0 at *
  refine (awake_any10 HS.out w0).mono ?_
  rintro e w1 ⟨rfl, hb⟩
  have H1 : Hid (Cb w1 qn (k10 n (.slice na nL nc)) 27 ∧ Cb w1 qm (k10 m (.slice ma mL mc)) 27 ∧ Below W.heap.size W w1) := ⟨H0.out.1.below hb, H0.out.2.1.below hb, H0.out.2.2.trans (hb.mono H0.out.2.2.size)⟩
  clear hb H0
  obtain ⟨c0, c1, c2, c3, c4, c5, c6, c7, c8, c9⟩ := ten_cells H1.out.1
  go_wp2_with fail
  refine (long_any10 n na nL nc w1 (HU.out.1.below H1.out.2.2).ss HU.out.2.1.many HU.out.2.1.data HU.out.2.1.long).mono ?_
  rintro e w2 ⟨t2, rfl, ht2, hb⟩
  have H2 : Hid (Cb w2 qn (k10 n (.slice na nL nc)) 27 ∧ Cb w2 qm (k10 m (.slice ma mL mc)) 27 ∧ Below W.heap.size W w2) := ⟨H1.out.1.below hb, H1.out.2.1.below hb, H1.out.2.2.trans (hb.mono H1.out.2.2.size)⟩
  have HT2 : Hid (t2 = true ↔ LongN n) := ht2
  clear hb H1 ht2 c0 c1 c2 c3 c4 c5 c6 c7 c8 c9
  cases t2 with
  | true =>
    go_wp2
    go_ret
    exact ⟨rfl, H2.out.2.2⟩
  | false =>
    have HSN : Hid (¬ LongN n) := fun h => by have := HT2.out.2 h; cases this
    clear HT2
    obtain ⟨c0, c1, c2, c3, c4, c5, c6, c7, c8, c9⟩ := ten_cells H2.out.2.1
    go_wp2_with fail
    refine (long_any10 m ma mL mc w2 (HU.out.2.2.1.below H2.out.2.2).ss HU.out.2.2.2.many HU.out.2.2.2.data HU.out.2.2.2.long).mono ?_
    rintro e w3 ⟨t3, rfl, ht3, hb⟩
    have H3 : Hid (Cb w3 qn (k10 n (.slice na nL nc)) 27 ∧ Cb w3 qm (k10 m (.slice ma mL mc)) 27 ∧ Below W.heap.size W w3) := ⟨H2.out.1.below hb, H2.out.2.1.below hb, H2.out.2.2.trans (hb.mono H2.out.2.2.size)⟩
    have HT3 : Hid (t3 = true ↔ LongN m) := ht3
    clear hb H2 ht3 c0 c1 c2 c3 c4 c5 c6 c7 c8 c9
    cases t3 with
    | true =>
      go_wp2
      go_ret
      exact ⟨rfl, H3.out.2.2⟩
    | false =>
      have HSM : Hid (¬ LongN m) := fun h => by have := HT3.out.2 h; cases this
      clear HT3
      by_cases h2000 : 2000 < bL
      · have h2000' : (2000 : Int) < (bL : Int) := by omega
        go_wp2
        go_ret
        exact ⟨rfl, H3.out.2.2⟩
      have h2000' : ¬ (2000 : Int) < (bL : Int) := by omega
      have HL : Hid (n.names.length ≤ 40 ∧ (∀ s ∈ n.names, s.size ≤ 100) ∧ n.data.size ≤ 1200 ∧ m.names.length ≤ 40 ∧ b.length ≤ 2000) := by
        have h1 := HSN.out
        have h2 := HSM.out
        have h3 := HBL.out
        unfold LongN at h1 h2
        refine ⟨by omega, fun s hs => ?_, by omega, by omega, by omega⟩
        rcases Nat.lt_or_ge 100 s.size with h | h
        · exact absurd (Or.inr (Or.inr ⟨s, hs, h⟩)) h1
        · exact h
      clear HSN HSM h2000
      go_wp2_with fail
      refine (Pw.read_bs (.slice ba bL bc') b w3 (HV.out.below H3.out.2.2) (by have := HL.out.2.2.2.2; omega)).mono ?_
      rintro e w4 ⟨qr, rfl, hqr, hrd, hb⟩
      have H4 : Hid (Cb w4 qn (k10 n (.slice na nL nc)) 27 ∧ Cb w4 qm (k10 m (.slice ma mL mc)) 27 ∧ Below W.heap.size W w4 ∧ Pw.Rd w4 qr b false ∧ qn < qr ∧ qm < qr ∧ W.heap.size ≤ qr) := ⟨H3.out.1.below hb, H3.out.2.1.below hb, H3.out.2.2.trans (hb.mono H3.out.2.2.size), hrd, by have := H3.out.1.lt; omega, by have := H3.out.2.1.lt; omega, by have := H3.out.2.2.size; omega⟩
      clear hb hrd hqr H3
      go_wp2_with fail
      have hget := HSB.out.get qr b false w4 H4.out.2.2.2.1 (by have := HL.out.2.2.2.2; omega)
      have HG : Hid (Calls Try.prog 14 #[.pointer (some ⟨qr, 0, none⟩)] w4 fun e w' => ∃ x a L c t, e = .returned (.tuple #[kv x (.slice a L c), .bool t]) ∧ ((Kq.Good b false ∧ x = (Kq.raw b false).1 ∧ t = true) ∨ (¬ Kq.Good b false ∧ x = Kq.zero ∧ t = false)) ∧ x.names.length ≤ 500 ∧ Ss w' (.slice a L c) x.names ∧ w4.grownBy w' (some qr)) := by
        refine hget.mono ?_
        rintro e w' ⟨h1, h2, hg⟩
        rcases Classical.em (Kq.Good b false) with hgd | hgd
        · obtain ⟨v, rfl, ho, _⟩ := h1 hgd
          obtain ⟨a, c, rfl, _⟩ := row_form ho
          exact ⟨_, a, _, c, true, rfl, Or.inl ⟨hgd, rfl, rfl⟩, raw_len b false, (Nm.of_row ho).ss, hg⟩
        · obtain ⟨a, c, rfl⟩ := h2 hgd
          exact ⟨_, a, 0, c, false, rfl, Or.inr ⟨hgd, rfl, rfl⟩, Nat.zero_le _, ⟨a, 0, c, rfl, rfl, fun j s hs => by simp [Kq.zero] at hs⟩, hg⟩
      clear hget
      refine HG.out.mono ?_
      rintro e w5 ⟨x, xa, xL, xc, t, rfl, hxt, hxl, hxs, hg⟩
      have HX : Hid (((Kq.Good b false ∧ x = (Kq.raw b false).1 ∧ t = true) ∨ (¬ Kq.Good b false ∧ x = Kq.zero ∧ t = false)) ∧ x.names.length ≤ 500) := ⟨hxt, hxl⟩
      have H5 : Hid (Cb w5 qn (k10 n (.slice na nL nc)) 27 ∧ Cb w5 qm (k10 m (.slice ma mL mc)) 27 ∧ Below W.heap.size W w5 ∧ Ss w5 (.slice xa xL xc) x.names) := ⟨H4.out.1.keep (hg.block _ H4.out.1.lt (fun e => by have := H4.out.2.2.2.2.1; simp at e; omega)), H4.out.2.1.keep (hg.block _ H4.out.2.1.lt (fun e => by have := H4.out.2.2.2.2.2.1; simp at e; omega)), Below.reader H4.out.2.2.1 hg (Nat.le_refl _) H4.out.2.2.2.2.2.2, hxs⟩
      clear hxt hxl hxs hg HG H4
      obtain ⟨qx, hqx⟩ : ∃ z, z = w5.heap.size := ⟨_, rfl⟩
      have hb6 := (Below.refl _ w5).alloc (Nat.le_refl _) (.cells #[.int .i64 x.made, .int .i64 x.changed, .int .i64 x.ver, .int .i64 x.kids, .int .i64 x.owner, .int .i64 x.len, .int .i64 x.cnt, .string x.data, .int .i64 x.next, .slice xa xL xc] 27)
      have H6 : Hid (Cb (w5.alloc (.cells #[.int .i64 x.made, .int .i64 x.changed, .int .i64 x.ver, .int .i64 x.kids, .int .i64 x.owner, .int .i64 x.len, .int .i64 x.cnt, .string x.data, .int .i64 x.next, .slice xa xL xc] 27)) qn (k10 n (.slice na nL nc)) 27 ∧ Cb (w5.alloc (.cells #[.int .i64 x.made, .int .i64 x.changed, .int .i64 x.ver, .int .i64 x.kids, .int .i64 x.owner, .int .i64 x.len, .int .i64 x.cnt, .string x.data, .int .i64 x.next, .slice xa xL xc] 27)) qm (k10 m (.slice ma mL mc)) 27 ∧ Below W.heap.size W (w5.alloc (.cells #[.int .i64 x.made, .int .i64 x.changed, .int .i64 x.ver, .int .i64 x.kids, .int .i64 x.owner, .int .i64 x.len, .int .i64 x.cnt, .string x.data, .int .i64 x.next, .slice xa xL xc] 27)) ∧ Ss (w5.alloc (.cells #[.int .i64 x.made, .int .i64 x.changed, .int .i64 x.ver, .int .i64 x.kids, .int .i64 x.owner, .int .i64 x.len, .int .i64 x.cnt, .string x.data, .int .i64 x.next, .slice xa xL xc] 27)) (.slice xa xL xc) x.names ∧ Cb (w5.alloc (.cells #[.int .i64 x.made, .int .i64 x.changed, .int .i64 x.ver, .int .i64 x.kids, .int .i64 x.owner, .int .i64 x.len, .int .i64 x.cnt, .string x.data, .int .i64 x.next, .slice xa xL xc] 27)) qx (k10 x (.slice xa xL xc)) 27) := ⟨H5.out.1.below hb6, H5.out.2.1.below hb6, H5.out.2.2.1.trans (hb6.mono H5.out.2.2.1.size), H5.out.2.2.2.below hb6, by rw [hqx]; exact Cb.made w5 _ _⟩
      clear hb6 H5
      unfold kv
      go_upto_region 6 with fail
      rw [← hqx]
      clear hqx
      generalize w5.alloc (.cells #[.int .i64 x.made, .int .i64 x.changed, .int .i64 x.ver, .int .i64 x.kids, .int .i64 x.owner, .int .i64 x.len, .int .i64 x.cnt, .string x.data, .int .i64 x.next, .slice xa xL xc] 27) = w6 at *
      obtain ⟨q2, hq2⟩ : ∃ z, z = w6.heap.size := ⟨_, rfl⟩
      have hb7 := (Below.refl _ w6).alloc (Nat.le_refl _) (.cells #[.slice ba bL bc', .int .i64 0, .bool false] 53)
      have H7 : Hid (Cb (w6.alloc (.cells #[.slice ba bL bc', .int .i64 0, .bool false] 53)) qn (k10 n (.slice na nL nc)) 27 ∧ Cb (w6.alloc (.cells #[.slice ba bL bc', .int .i64 0, .bool false] 53)) qm (k10 m (.slice ma mL mc)) 27 ∧ Below W.heap.size W (w6.alloc (.cells #[.slice ba bL bc', .int .i64 0, .bool false] 53)) ∧ (Ss w6 (.slice xa xL xc) x.names ∧ Cb (w6.alloc (.cells #[.slice ba bL bc', .int .i64 0, .bool false] 53)) qx (k10 x (.slice xa xL xc)) 27) ∧ Pw.Rf (w6.alloc (.cells #[.slice ba bL bc', .int .i64 0, .bool false] 53)) q2 (.slice ba bL bc') b b false ∧ qn < q2 ∧ qm < q2 ∧ qx < q2 ∧ W.heap.size ≤ q2 ∧ w6.heap.size ≤ q2 ∧ Below w6.heap.size w6 (w6.alloc (.cells #[.slice ba bL bc', .int .i64 0, .bool false] 53))) := ⟨H6.out.1.below hb7, H6.out.2.1.below hb7, H6.out.2.2.1.trans (hb7.mono H6.out.2.2.1.size), ⟨H6.out.2.2.2.1, H6.out.2.2.2.2.below hb7⟩, by rw [hq2]; exact Rf.start10 (HV.out.below H6.out.2.2.1) (by have := HL.out.2.2.2.2; omega) _, by have := H6.out.1.lt; omega, by have := H6.out.2.1.lt; omega, by have := H6.out.2.2.2.2.lt; omega, by have := H6.out.2.2.1.size; omega, by omega, hb7⟩
      clear hb7 H6
      go_wp2_with fail
      rw [← hq2]
      clear hq2
      generalize w6.alloc (.cells #[.slice ba bL bc', .int .i64 0, .bool false] 53) = w7 at *
      have hget := refGet_any10 q2 (.slice ba bL bc') b b false w7 H7.out.2.2.2.2.1
      have HG : Hid (Calls Try.prog 25 #[.pointer (some ⟨q2, 0, none⟩)] w7 fun e w' => ∃ a L c, e = .returned (.tuple #[kv x (.slice a L c), .bool t]) ∧ Ss w' (.slice a L c) x.names ∧ w7.grownBy w' (some q2)) := by
        refine hget.mono ?_
        rintro e w' ⟨h1, h2, hg⟩
        rcases HX.out.1 with ⟨hgd, hx, ht⟩ | ⟨hgd, hx, ht⟩
        · obtain ⟨a, L, c, rfl, ho, _⟩ := h1 hgd
          rw [hx, ht]
          exact ⟨a, L, c, rfl, ho.ss, hg⟩
        · obtain rfl := h2 hgd
          rw [hx, ht]
          exact ⟨none, 0, 0, rfl, ⟨none, 0, 0, rfl, rfl, fun j s hs => by simp [Kq.zero] at hs⟩, hg⟩
      clear hget
      refine HG.out.mono ?_
      rintro e w8 ⟨ya, yL, yc, rfl, hys, hg⟩
      have HGR : Hid (Ss w8 (.slice xa xL xc) x.names) := by
        have h1 := H7.out.2.2.2.1.1
        obtain ⟨av, k, c, he, hk, hc⟩ := h1
        refine ⟨av, k, c, he, hk, fun j s hs => ?_⟩
        obtain ⟨g, o, e1, e2⟩ := hc j s hs
        have hlt := World.block_lt_of_cell? w6 _ e2
        simp only [] at hlt
        have e3 := Below.kept H7.out.2.2.2.2.2.2.2.2.2.2 e2
        exact ⟨g, o, e1, hg.cell e3 (fun e => by have h5 := H7.out.2.2.2.2.2.2.2.2.2.1; simp at e; omega)⟩
      have H8 : Hid (Cb w8 qn (k10 n (.slice na nL nc)) 27 ∧ Cb w8 qm (k10 m (.slice ma mL mc)) 27 ∧ Cb w8 qx (k10 x (.slice xa xL xc)) 27 ∧ Below W.heap.size W w8 ∧ Ss w8 (.slice xa xL xc) x.names ∧ Ss w8 (.slice ya yL yc) x.names) := by
        have h7 := H7.out
        refine ⟨h7.1.keep (hg.block _ h7.1.lt (fun e => by have := h7.2.2.2.2.2.1; simp at e; omega)), h7.2.1.keep (hg.block _ h7.2.1.lt (fun e => by have := h7.2.2.2.2.2.2.1; simp at e; omega)), h7.2.2.2.1.2.keep (hg.block _ h7.2.2.2.1.2.lt (fun e => by have := h7.2.2.2.2.2.2.2.1; simp at e; omega)), Below.reader h7.2.2.1 hg (Nat.le_refl _) h7.2.2.2.2.2.2.2.2.1, HGR.out, hys⟩
      clear hys hg HG H7 HGR
      obtain ⟨qy, hqy⟩ : ∃ z, z = w8.heap.size := ⟨_, rfl⟩
      have hb9 := (Below.refl _ w8).alloc (Nat.le_refl _) (.cells #[.int .i64 x.made, .int .i64 x.changed, .int .i64 x.ver, .int .i64 x.kids, .int .i64 x.owner, .int .i64 x.len, .int .i64 x.cnt, .string x.data, .int .i64 x.next, .slice ya yL yc] 40)
      have H9 : Hid (By10 W (w8.alloc (.cells #[.int .i64 x.made, .int .i64 x.changed, .int .i64 x.ver, .int .i64 x.kids, .int .i64 x.owner, .int .i64 x.len, .int .i64 x.cnt, .string x.data, .int .i64 x.next, .slice ya yL yc] 40)) qn qm qx qy n m x (.slice na nL nc) (.slice ma mL mc) (.slice xa xL xc) (.slice ya yL yc)) := ⟨H8.out.1.below hb9, H8.out.2.1.below hb9, H8.out.2.2.1.below hb9, by rw [hqy]; exact Cb.made w8 _ _, (HU.out.1.below (H8.out.2.2.2.1.trans (hb9.mono H8.out.2.2.2.1.size))).ss, (HU.out.2.2.1.below (H8.out.2.2.2.1.trans (hb9.mono H8.out.2.2.2.1.size))).ss, H8.out.2.2.2.2.1.below hb9, H8.out.2.2.2.2.2.below hb9, H8.out.2.2.2.1.trans (hb9.mono H8.out.2.2.2.1.size)⟩
      clear hb9 H8
      unfold kv
      go_upto_region 7 with fail
      rw [← hqy]
      clear hqy
      generalize w8.alloc (.cells #[.int .i64 x.made, .int .i64 x.changed, .int .i64 x.ver, .int .i64 x.kids, .int .i64 x.owner, .int .i64 x.len, .int .i64 x.cnt, .string x.data, .int .i64 x.next, .slice ya yL yc] 40) = w9 at *
      refine wp_region_held_drew (S := fun w' => Below w9.heap.size w9 w') (by kernel_rfl) (Below.refl _ _).drew (fun _ => ?_)
      refine wpAnyH_more (S' := fun w' => Below w9.drew.heap.size w9.drew w') (fun w' h => below_drew h) _ _ _ _ ?_
      have J0 : Hid (By10 W w9.drew qn qm qx qy n m x (.slice na nL nc) (.slice ma mL mc) (.slice xa xL xc) (.slice ya yL yc)) := H9.out.later (Below.refl _ _).drew
      clear H9
      generalize w9.drew = s0 at *
      obtain ⟨Z, hZ⟩ : ∃ Z : ByteArray, Z = ⟨(Kq.bytes n).toArray⟩ := ⟨_, rfl⟩
      have HZ : Hid (Z = ⟨(Kq.bytes n).toArray⟩) := hZ
      clear hZ
      have hzz : (Z.toList == Z.toList) = true := by simp
      have htt : (t == t) = true := by simp
      refine' take_at (i := 0) (d := 37) (v := _) rfl rfl (by kernel_rfl) (by kernel_rfl) (by kernel_rfl) (fun _ _ _ h => h) (Or.inl ⟨by rfl, ?h0⟩) (Below.refl _ _) ?_
      case h0 =>
        intro w hSw
        obtain ⟨a0, a1, a2, a3, a4, a5, a6, a7, a8, a9⟩ := ten_cells (J0.out.later hSw).bn
        go_simp
        with_reducible rfl
      simp only [List.setIfInBounds_toArray, List.set_cons_zero, List.set_cons_succ]
      refine' take_at (i := 3) (d := 40) (v := _) rfl rfl (by kernel_rfl) (by kernel_rfl) (by kernel_rfl) (fun _ _ _ h => h) (Or.inl ⟨by rfl, ?h3⟩) (Below.refl _ _) ?_
      case h3 =>
        intro w hSw
        obtain ⟨a0, a1, a2, a3, a4, a5, a6, a7, a8, a9⟩ := ten_cells (J0.out.later hSw).bn
        go_simp
        with_reducible rfl
      simp only [List.setIfInBounds_toArray, List.set_cons_zero, List.set_cons_succ]
      refine wpAnyH_ready (rs := [1]) (by kernel_rfl) (by simp) ?_
      refine AllReadyH.cons (o := _) rfl (fun K hK => ?_) AllReadyH.nil
      go_simp
      refine (HSB.out.put n (.slice na nL nc) s0 J0.out.sn (by have := HL.out.1; omega) (fun s hs => by have := HL.out.2.1 s hs; omega) (by have := HL.out.2.2.1; omega)).mono ?_
      rintro e s1 ⟨u1, rfl, hbs, hnew, hb⟩
      have J1 : Hid (By10 W s1 qn qm qx qy n m x (.slice na nL nc) (.slice ma mL mc) (.slice xa xL xc) (.slice ya yL yc)) := J0.out.later hb
      have K1 : Hid (Bs s1 u1 (Kq.bytes n)) := hbs
      obtain ⟨a1, m1, c1, rfl, hj1, hj2⟩ := hbs
      clear hnew hj1 hj2
      simp only []
      refine hK.out _ _ hb (fun _ => ?_)
      refine wpAnyH_more (S' := fun w' => Below s1.heap.size s1 w') (fun w' h => hb.trans (h.mono hb.size)) _ _ _ _ ?_
      clear hK K hb
      refine' take_at (i := 2) (d := 39) (v := _) rfl rfl (by kernel_rfl) (by kernel_rfl) (by kernel_rfl) (fun _ _ _ h => h) (Or.inl ⟨by rfl, ?h2⟩) (Below.refl _ _) ?_
      case h2 =>
        intro w hSw
        have hcv := (K1.out.below hSw).conv
        rw [← HZ.out] at hcv
        go_simp
        with_reducible rfl
      simp only [List.setIfInBounds_toArray, List.set_cons_zero, List.set_cons_succ]
      refine wpAnyH_ready (rs := [4]) (by kernel_rfl) (by simp) ?_
      refine AllReadyH.cons (o := _) rfl (fun K hK => ?_) AllReadyH.nil
      go_simp
      refine (nd_any10 n na nL nc s1).mono ?_
      rintro e s2 ⟨rfl, hb⟩
      have J2 : Hid (By10 W s2 qn qm qx qy n m x (.slice na nL nc) (.slice ma mL mc) (.slice xa xL xc) (.slice ya yL yc)) := J1.out.later hb
      unfold kv
      simp only []
      refine hK.out _ _ hb (fun _ => ?_)
      refine wpAnyH_more (S' := fun w' => Below s2.heap.size s2 w') (fun w' h => hb.trans (h.mono hb.size)) _ _ _ _ ?_
      clear hK K hb
      refine wpAnyH_ready (rs := [5]) (by kernel_rfl) (by simp) ?_
      refine AllReadyH.cons (o := _) rfl (fun K hK => ?_) AllReadyH.nil
      go_simp
      refine (refPut_any10 (.slice none 0 0) [] n na nL nc s2 (Bs.nil _) J2.out.sn (by have := HL.out.1; omega) (fun s hs => by have := HL.out.2.1 s hs; omega) (by have := HL.out.2.2.1; omega) (by simp)).mono ?_
      rintro e s3 ⟨u3, rfl, hbs, hb⟩
      have J3 : Hid (By10 W s3 qn qm qx qy n m x (.slice na nL nc) (.slice ma mL mc) (.slice xa xL xc) (.slice ya yL yc)) := J2.out.later hb
      rw [List.nil_append] at hbs
      have K3 : Hid (Bs s3 u3 (Kq.bytes n)) := hbs
      obtain ⟨a3, m3, c3, rfl, hj1, hj2⟩ := hbs
      clear hj1 hj2
      simp only []
      refine hK.out _ _ hb (fun _ => ?_)
      refine wpAnyH_more (S' := fun w' => Below s3.heap.size s3 w') (fun w' h => hb.trans (h.mono hb.size)) _ _ _ _ ?_
      clear hK K hb
      refine' take_at (i := 6) (d := 43) (v := _) rfl rfl (by kernel_rfl) (by kernel_rfl) (by kernel_rfl) (fun _ _ _ h => h) (Or.inl ⟨by rfl, ?h6⟩) (Below.refl _ _) ?_
      case h6 =>
        intro w hSw
        have hcv := (K3.out.below hSw).conv
        rw [← HZ.out] at hcv
        go_simp
        with_reducible rfl
      simp only [List.setIfInBounds_toArray, List.set_cons_zero, List.set_cons_succ]
      refine' take_at (i := 7) (d := 44) (v := _) rfl rfl (by kernel_rfl) (by kernel_rfl) (by kernel_rfl) (fun _ _ _ h => h) (Or.inl ⟨by rfl, ?h7⟩) (Below.refl _ _) ?_
      case h7 =>
        intro w hSw
        go_simp
        with_reducible rfl
      simp only [List.setIfInBounds_toArray, List.set_cons_zero, List.set_cons_succ]
      refine' take_at (i := 8) (d := 45) (v := _) rfl rfl (by kernel_rfl) (by kernel_rfl) (by kernel_rfl) (fun _ _ _ h => h) (Or.inl ⟨by rfl, ?h8⟩) (Below.refl _ _) ?_
      case h8 =>
        intro w hSw
        go_simp
        with_reducible rfl
      simp only [List.setIfInBounds_toArray, List.set_cons_zero, List.set_cons_succ]
      refine' take_at (i := 9) (d := 46) (v := _) rfl rfl (by kernel_rfl) (by kernel_rfl) (by kernel_rfl) (fun _ _ _ h => h) (Or.inl ⟨by rfl, ?h9⟩) (Below.refl _ _) ?_
      case h9 =>
        intro w hSw
        go_simp
        with_reducible rfl
      simp only [List.setIfInBounds_toArray, List.set_cons_zero, List.set_cons_succ]
      refine' take_at (i := 10) (d := 47) (v := _) rfl rfl (by kernel_rfl) (by kernel_rfl) (by kernel_rfl) (fun _ _ _ h => h) (Or.inl ⟨by rfl, ?h10⟩) (Below.refl _ _) ?_
      case h10 =>
        intro w hSw
        go_simp
        with_reducible rfl
      simp only [List.setIfInBounds_toArray, List.set_cons_zero, List.set_cons_succ]
      refine' take_at (i := 11) (d := 48) (v := _) rfl rfl (by kernel_rfl) (by kernel_rfl) (by kernel_rfl) (fun _ _ _ h => h) (Or.inl ⟨by rfl, ?h11⟩) (Below.refl _ _) ?_
      case h11 =>
        intro w hSw
        go_simp
        with_reducible rfl
      simp only [List.setIfInBounds_toArray, List.set_cons_zero, List.set_cons_succ]
      refine' take_at (i := 12) (d := 49) (v := _) rfl rfl (by kernel_rfl) (by kernel_rfl) (by kernel_rfl) (fun _ _ _ h => h) (Or.inl ⟨by rfl, ?h12⟩) (Below.refl _ _) ?_
      case h12 =>
        intro w hSw
        go_simp
        with_reducible rfl
      simp only [List.setIfInBounds_toArray, List.set_cons_zero, List.set_cons_succ]
      refine' take_at (i := 13) (d := 50) (v := _) rfl rfl (by kernel_rfl) (by kernel_rfl) (by kernel_rfl) (fun _ _ _ h => h) (Or.inl ⟨by rfl, ?h13⟩) (Below.refl _ _) ?_
      case h13 =>
        intro w hSw
        go_simp
        with_reducible rfl
      simp only [List.setIfInBounds_toArray, List.set_cons_zero, List.set_cons_succ]
      refine' take_at (i := 14) (d := 51) (v := _) rfl rfl (by kernel_rfl) (by kernel_rfl) (by kernel_rfl) (fun _ _ _ h => h) (Or.inl ⟨by rfl, ?h14⟩) (Below.refl _ _) ?_
      case h14 =>
        intro w hSw
        obtain ⟨a0, a1, a2, a3, a4, a5, a6, a7, a8, a9⟩ := ten_cells (J3.out.later hSw).bx
        go_simp
        with_reducible rfl
      simp only [List.setIfInBounds_toArray, List.set_cons_zero, List.set_cons_succ]
      refine' take_at (i := 16) (d := 53) (v := _) rfl rfl (by kernel_rfl) (by kernel_rfl) (by kernel_rfl) (fun _ _ _ h => h) (Or.inl ⟨by rfl, ?h16⟩) (Below.refl _ _) ?_
      case h16 =>
        intro w hSw
        obtain ⟨a0, a1, a2, a3, a4, a5, a6, a7, a8, a9⟩ := ten_cells (J3.out.later hSw).yb
        go_simp
        with_reducible rfl
      simp only [List.setIfInBounds_toArray, List.set_cons_zero, List.set_cons_succ]
      refine wpAnyH_ready (rs := [15]) (by kernel_rfl) (by simp) ?_
      refine AllReadyH.cons (o := _) rfl (fun K hK => ?_) AllReadyH.nil
      go_simp
      refine (nd_any10 x xa xL xc s3).mono ?_
      rintro e s4 ⟨rfl, hb⟩
      have J4 : Hid (By10 W s4 qn qm qx qy n m x (.slice na nL nc) (.slice ma mL mc) (.slice xa xL xc) (.slice ya yL yc)) := J3.out.later hb
      unfold kv
      simp only []
      refine hK.out _ _ hb (fun _ => ?_)
      refine wpAnyH_more (S' := fun w' => Below s4.heap.size s4 w') (fun w' h => hb.trans (h.mono hb.size)) _ _ _ _ ?_
      clear hK K hb
      refine wpAnyH_ready (rs := [17]) (by kernel_rfl) (by simp) ?_
      refine AllReadyH.cons (o := _) rfl (fun K hK => ?_) AllReadyH.nil
      go_simp
      refine (refSame_any10 x x xa ya xL xc yL yc s4 J4.out.sx J4.out.sy (by have := HX.out.2; omega) (by have := HX.out.2; omega)).mono ?_
      rintro e s5 ⟨R, rfl, hR, hb⟩
      have J5 : Hid (By10 W s5 qn qm qx qy n m x (.slice na nL nc) (.slice ma mL mc) (.slice xa xL xc) (.slice ya yL yc)) := J4.out.later hb
      obtain rfl : R = true := hR.2 rfl
      clear hR
      simp only []
      refine hK.out _ _ hb (fun _ => ?_)
      refine wpAnyH_more (S' := fun w' => Below s5.heap.size s5 w') (fun w' h => hb.trans (h.mono hb.size)) _ _ _ _ ?_
      clear hK K hb
      refine' take_at (i := 18) (d := 55) (v := _) rfl rfl (by kernel_rfl) (by kernel_rfl) (by kernel_rfl) (fun _ _ _ h => h) (Or.inl ⟨by rfl, ?h18⟩) (Below.refl _ _) ?_
      case h18 =>
        intro w hSw
        go_simp
        with_reducible rfl
      simp only [List.setIfInBounds_toArray, List.set_cons_zero, List.set_cons_succ]
      refine' take_at (i := 19) (d := 56) (v := _) rfl rfl (by kernel_rfl) (by kernel_rfl) (by kernel_rfl) (fun _ _ _ h => h) (Or.inl ⟨by rfl, ?h19⟩) (Below.refl _ _) ?_
      case h19 =>
        intro w hSw
        go_simp
        with_reducible rfl
      simp only [List.setIfInBounds_toArray, List.set_cons_zero, List.set_cons_succ]
      refine' take_at (i := 20) (d := 57) (v := _) rfl rfl (by kernel_rfl) (by kernel_rfl) (by kernel_rfl) (fun _ _ _ h => h) (Or.inl ⟨by rfl, ?h20⟩) (Below.refl _ _) ?_
      case h20 =>
        intro w hSw
        obtain ⟨a0, a1, a2, a3, a4, a5, a6, a7, a8, a9⟩ := ten_cells (J5.out.later hSw).bn
        go_simp
        with_reducible rfl
      simp only [List.setIfInBounds_toArray, List.set_cons_zero, List.set_cons_succ]
      refine' take_at (i := 21) (d := 58) (v := _) rfl rfl (by kernel_rfl) (by kernel_rfl) (by kernel_rfl) (fun _ _ _ h => h) (Or.inl ⟨by rfl, ?h21⟩) (Below.refl _ _) ?_
      case h21 =>
        intro w hSw
        obtain ⟨a0, a1, a2, a3, a4, a5, a6, a7, a8, a9⟩ := ten_cells (J5.out.later hSw).bm
        go_simp
        with_reducible rfl
      simp only [List.setIfInBounds_toArray, List.set_cons_zero, List.set_cons_succ]
      refine' take_at (i := 23) (d := 60) (v := _) rfl rfl (by kernel_rfl) (by kernel_rfl) (by kernel_rfl) (fun _ _ _ h => h) (Or.inl ⟨by rfl, ?h23⟩) (Below.refl _ _) ?_
      case h23 =>
        intro w hSw
        obtain ⟨a0, a1, a2, a3, a4, a5, a6, a7, a8, a9⟩ := ten_cells (J5.out.later hSw).bn
        go_simp
        with_reducible rfl
      simp only [List.setIfInBounds_toArray, List.set_cons_zero, List.set_cons_succ]
      refine' take_at (i := 25) (d := 62) (v := _) rfl rfl (by kernel_rfl) (by kernel_rfl) (by kernel_rfl) (fun _ _ _ h => h) (Or.inl ⟨by rfl, ?h25⟩) (Below.refl _ _) ?_
      case h25 =>
        intro w hSw
        obtain ⟨a0, a1, a2, a3, a4, a5, a6, a7, a8, a9⟩ := ten_cells (J5.out.later hSw).bm
        go_simp
        with_reducible rfl
      simp only [List.setIfInBounds_toArray, List.set_cons_zero, List.set_cons_succ]
      refine wpAnyH_ready (rs := [22]) (by kernel_rfl) (by simp) ?_
      refine AllReadyH.cons (o := _) rfl (fun K hK => ?_) AllReadyH.nil
      go_simp
      refine (HSB.out.same n m (.slice na nL nc) (.slice ma mL mc) s5 J5.out.sn J5.out.sm (by have := HL.out.1; omega) (by have := HL.out.2.2.2.1; omega)).mono ?_
      rintro e s6 ⟨R, rfl, hR, hb⟩
      have J6 : Hid (By10 W s6 qn qm qx qy n m x (.slice na nL nc) (.slice ma mL mc) (.slice xa xL xc) (.slice ya yL yc)) := J5.out.later hb
      have HR : Hid (R = true ↔ n = m) := hR
      clear hR
      simp only []
      refine hK.out _ _ hb (fun _ => ?_)
      refine wpAnyH_more (S' := fun w' => Below s6.heap.size s6 w') (fun w' h => hb.trans (h.mono hb.size)) _ _ _ _ ?_
      clear hK K hb
      refine wpAnyH_ready (rs := [24]) (by kernel_rfl) (by simp) ?_
      refine AllReadyH.cons (o := _) rfl (fun K hK => ?_) AllReadyH.nil
      go_simp
      refine (nd_any10 n na nL nc s6).mono ?_
      rintro e s7 ⟨rfl, hb⟩
      have J7 : Hid (By10 W s7 qn qm qx qy n m x (.slice na nL nc) (.slice ma mL mc) (.slice xa xL xc) (.slice ya yL yc)) := J6.out.later hb
      unfold kv
      simp only []
      refine hK.out _ _ hb (fun _ => ?_)
      refine wpAnyH_more (S' := fun w' => Below s7.heap.size s7 w') (fun w' h => hb.trans (h.mono hb.size)) _ _ _ _ ?_
      clear hK K hb
      refine wpAnyH_ready (rs := [26]) (by kernel_rfl) (by simp) ?_
      refine AllReadyH.cons (o := _) rfl (fun K hK => ?_) AllReadyH.nil
      go_simp
      refine (nd_any10 m ma mL mc s7).mono ?_
      rintro e s8 ⟨rfl, hb⟩
      have J8 : Hid (By10 W s8 qn qm qx qy n m x (.slice na nL nc) (.slice ma mL mc) (.slice xa xL xc) (.slice ya yL yc)) := J7.out.later hb
      unfold kv
      simp only []
      refine hK.out _ _ hb (fun _ => ?_)
      refine wpAnyH_more (S' := fun w' => Below s8.heap.size s8 w') (fun w' h => hb.trans (h.mono hb.size)) _ _ _ _ ?_
      clear hK K hb
      refine wpAnyH_ready (rs := [27]) (by kernel_rfl) (by simp) ?_
      refine AllReadyH.cons (o := _) rfl (fun K hK => ?_) AllReadyH.nil
      go_simp
      refine (refSame_any10 n m na ma nL nc mL mc s8 J8.out.sn J8.out.sm (by have := HL.out.1; omega) (by have := HL.out.2.2.2.1; omega)).mono ?_
      rintro e s9 ⟨R2, rfl, hR2, hb⟩
      have J9 : Hid (By10 W s9 qn qm qx qy n m x (.slice na nL nc) (.slice ma mL mc) (.slice xa xL xc) (.slice ya yL yc)) := J8.out.later hb
      obtain rfl : R2 = R := by
        rw [Bool.eq_iff_iff, hR2, HR.out]
      clear hR2
      have hrr : (R2 == R2) = true := by simp
      simp only []
      refine hK.out _ _ hb (fun _ => ?_)
      refine wpAnyH_more (S' := fun w' => Below s9.heap.size s9 w') (fun w' h => hb.trans (h.mono hb.size)) _ _ _ _ ?_
      clear hK K hb
      refine' take_at (i := 28) (d := 65) (v := _) rfl rfl (by kernel_rfl) (by kernel_rfl) (by kernel_rfl) (fun _ _ _ h => h) (Or.inl ⟨by rfl, ?h28⟩) (Below.refl _ _) ?_
      case h28 =>
        intro w hSw
        go_simp
        with_reducible rfl
      simp only [List.setIfInBounds_toArray, List.set_cons_zero, List.set_cons_succ]
      refine' take_at (i := 29) (d := 66) (v := _) rfl rfl (by kernel_rfl) (by kernel_rfl) (by kernel_rfl) (fun _ _ _ h => h) (Or.inl ⟨by rfl, ?h29⟩) (Below.refl _ _) ?_
      case h29 =>
        intro w hSw
        go_simp
        with_reducible rfl
      simp only [List.setIfInBounds_toArray, List.set_cons_zero, List.set_cons_succ]
      refine' take_at (i := 30) (d := 6) (v := _) rfl rfl (by kernel_rfl) (by kernel_rfl) (by kernel_rfl) (fun _ _ _ h => h) (Or.inl ⟨by rfl, ?h30⟩) (Below.refl _ _) ?_
      case h30 =>
        intro w hSw
        go_simp
        with_reducible rfl
      simp only [List.setIfInBounds_toArray, List.set_cons_zero, List.set_cons_succ]
      refine wpAnyH_done (by kernel_rfl) ?_ _
      go_wp2
      go_ret
      exact ⟨rfl, J9.out.below⟩
end Go.Proofs.Ytlgpjgncimcijaa
