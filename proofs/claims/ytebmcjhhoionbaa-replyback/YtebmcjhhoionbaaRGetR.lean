/- What the reference's GetReply answers. -/
import Derived.Test.YtebmcjhhoionbaaGetR
import Derived.Test.YtebmcjhhoionbaaLibV
import Derived.Deep.DeepCutAuto
import Derived.Test.YtebmcjhhoionbaaTakeAt
import Derived.Laws.ResultCell
namespace Go.Proofs.Ytebmcjhhoionbaa
open Go.RowKit

/-- The reference's Reader; the bytes are older than the call. -/
structure RfB (w wr : World) (qr : Nat) (v : Value) (b ys : List UInt8) (bad : Bool) : Prop where
  rf : Pw.Rf wr qr v b ys bad
  vb : 0 < b.length → ∀ k, v.ownBlock = some k → k < w.heap.size

theorem RfB.grown {w wr w' : World} {qr k : Nat} {v : Value} {b ys : List UInt8} {bad : Bool} (h : RfB w wr qr v b ys bad) (hg : wr.grownBy w' (some k)) (h1 : qr ≠ k) (h2 : w.heap.size ≤ k) : RfB w w' qr v b ys bad :=
  ⟨h.rf.grown hg h1 (fun hb e => by have := h.vb hb k e; omega), h.vb⟩

theorem RfB.read {w wr w' : World} {qr : Nat} {v : Value} {b ys ys' : List UInt8} {bad bad' : Bool} (h : RfB w wr qr v b ys bad) (hr : Pw.Rf w' qr v b ys' bad') : RfB w w' qr v b ys' bad' := ⟨hr, h.vb⟩

theorem RfB.start {w : World} {v : Value} {b : List UInt8} (hb : Bs w v b) (hN : b.length ≤ 100000) (o : Obj) (t : TypeId) : RfB w ((w.alloc o).alloc (.cells #[v, .int .i64 0, .bool false] t)) (w.heap.size + 1) v b b false := by
  have h1 := (Below.refl w.heap.size w).alloc (Nat.le_refl _) o
  have hb1 := hb.below h1
  have hal := (Below.refl (w.alloc o).heap.size (w.alloc o)).alloc (Nat.le_refl _) (.cells #[v, .int .i64 0, .bool false] t)
  have hv : 0 < b.length → ∀ k, v.ownBlock = some k → k < w.heap.size := fun h k e => by
    obtain ⟨g, o, n, c, rfl, _, _, hc⟩ := hb.plain h
    have hlt := World.block_lt_of_cell? w _ (hc 0 b[0] (List.getElem?_eq_getElem h))
    simp only [Value.ownBlock, Option.some.injEq] at e
    simp only [] at hlt
    omega
  have es : (w.alloc o).heap.size = w.heap.size + 1 := World.size_alloc _ _
  rw [← es]
  refine ⟨⟨⟨0, cell?_alloc_at _ _ _ _ _ _ rfl, Nat.zero_le _, fun _ => rfl⟩, cell?_alloc_at _ _ _ _ _ _ rfl, cell?_alloc_at _ _ _ _ _ _ rfl, by simp, by simp, hb1.below hal, fun h e => ?_, fun e => (by cases e), by omega⟩, hv⟩
  have := hv h _ e
  omega

theorem RfB.drew {w wr : World} {qr : Nat} {v : Value} {b ys : List UInt8} {bad : Bool} (h : RfB w wr qr v b ys bad) : RfB w wr.drew qr v b ys bad :=
  ⟨⟨h.rf.pos, h.rf.c0, h.rf.c2, h.rf.f1, h.rf.f2, h.rf.bs.below (Below.refl _ wr).drew, h.rf.blk, h.rf.sad, h.rf.few⟩, h.vb⟩

theorem Head.of {b y1 y2 y3 y4 y5 : List UInt8} {b1 b2 b3 b4 b5 : Bool} {n1 n2 n3 n4 : Int} {c : Nat} (e1 : n1 = (Pk.rI b false).1 ∧ y1 = (Pk.rI b false).2.1 ∧ b1 = (Pk.rI b false).2.2) (e2 : n2 = (Pk.rI y1 b1).1 ∧ y2 = (Pk.rI y1 b1).2.1 ∧ b2 = (Pk.rI y1 b1).2.2)
    (e3 : n3 = (Pk.rI y2 b2).1 ∧ y3 = (Pk.rI y2 b2).2.1 ∧ b3 = (Pk.rI y2 b2).2.2) (e4 : n4 = (Pk.rI y3 b3).1 ∧ y4 = (Pk.rI y3 b3).2.1 ∧ b4 = (Pk.rI y3 b3).2.2) (e5 : (c : Int) = (Pk.rC 16 y4 b4).1 ∧ y5 = (Pk.rC 16 y4 b4).2.1 ∧ b5 = (Pk.rC 16 y4 b4).2.2) : Rq.Head b n1 n2 n3 n4 c y5 b5 := by
  refine ⟨e1.1, ?_, ?_, ?_, y4, b4, ?_, e5⟩
  · rw [← e1.2.1, ← e1.2.2]; exact e2.1
  · rw [← e1.2.1, ← e1.2.2, ← e2.2.1, ← e2.2.2]; exact e3.1
  · rw [← e1.2.1, ← e1.2.2, ← e2.2.1, ← e2.2.2, ← e3.2.1, ← e3.2.2]; exact e4.1
  · rw [← e1.2.1, ← e1.2.2, ← e2.2.1, ← e2.2.2, ← e3.2.1, ← e3.2.2, e4.2.1, e4.2.2]

theorem rC_within (m : Int) (hm : 0 ≤ m) (ys : List UInt8) (bad : Bool) : 0 ≤ (Pk.rC m ys bad).1 ∧ (Pk.rC m ys bad).1 ≤ m := by
  unfold Pk.rC
  split
  · exact ⟨by simp, hm⟩
  · rename_i h
    exact ⟨by omega, by omega⟩

set_option maxRecDepth 20000 in
set_option maxHeartbeats 8000000 in
theorem refGetR_any (v : Value) (b : List UInt8) (w : World) (hb : Bs w v b) (hN : b.length ≤ 50000) :
    Calls Try.prog 21 #[v] w fun e w' => Below w.heap.size w w' ∧ ((∃ r u, e = .returned (.tuple #[rv r u, .bool true]) ∧ Rl w' u r.xs ∧ Rq.Is b r) ∨ (e = .returned (.tuple #[rv Rq.zero (.slice none 0 0), .bool false]) ∧ ∀ r, ¬ Rq.Is b r)) := by
  have HV : Hid (Bs w v b ∧ b.length ≤ 50000) := ⟨hb, hN⟩
  obtain ⟨av, nv, cv, rfl, hnv, _⟩ := hb
  have HNV : Hid (nv = b.length) := hnv
  clear hnv hN
  obtain ⟨q0, hq0⟩ : ∃ q, q = w.heap.size := ⟨_, rfl⟩
  obtain ⟨qr, hqr⟩ : ∃ q, q = w.heap.size + 1 := ⟨_, rfl⟩
  have HR1 : Hid (RfB w ((w.alloc (.cells #[.int .i64 0, .int .i64 0, .int .i64 0, .int .i64 0, .slice none 0 0] 40)).alloc (.cells #[.slice av nv cv, .int .i64 0, .bool false] 65)) qr (.slice av nv cv) b b false) := by
    rw [hqr]
    exact RfB.start HV.out.1 (by have := HV.out.2; omega) _ _
  have HA1 : Hid (RepV ((w.alloc (.cells #[.int .i64 0, .int .i64 0, .int .i64 0, .int .i64 0, .slice none 0 0] 40)).alloc (.cells #[.slice av nv cv, .int .i64 0, .bool false] 65)) q0 Rq.zero (.slice none 0 0)) := by
    rw [hq0]
    exact (RepV.made w Rq.zero _ _).grown (World.grownBy_alloc _ _ (some (w.heap.size + 1))) (by omega)
  have HB1 : Hid (Below w.heap.size w ((w.alloc (.cells #[.int .i64 0, .int .i64 0, .int .i64 0, .int .i64 0, .slice none 0 0] 40)).alloc (.cells #[.slice av nv cv, .int .i64 0, .bool false] 65))) := ((Below.refl _ w).alloc (Nat.le_refl _) _).alloc (by simp) _
  go_enter Try.func21, Try.ntmps21
  go_wp2_with fail
  rw [← hqr, ← hq0]
  have HQ : Hid (q0 = w.heap.size ∧ qr = w.heap.size + 1) := ⟨hq0, hqr⟩
  clear hq0 hqr
  generalize (w.alloc (.cells #[.int .i64 0, .int .i64 0, .int .i64 0, .int .i64 0, .slice none 0 0] 40)).alloc (.cells #[.slice av nv cv, .int .i64 0, .bool false] 65) = w1 at *
  obtain ⟨n1, hn1⟩ : ∃ z, z = (Pk.rI b false).1 := ⟨_, rfl⟩
  obtain ⟨y1, hy1⟩ : ∃ z, z = (Pk.rI b false).2.1 := ⟨_, rfl⟩
  obtain ⟨b1, hb1⟩ : ∃ z, z = (Pk.rI b false).2.2 := ⟨_, rfl⟩
  have E1 : Hid (n1 = (Pk.rI b false).1 ∧ y1 = (Pk.rI b false).2.1 ∧ b1 = (Pk.rI b false).2.2) := ⟨hn1, hy1, hb1⟩
  clear hn1 hy1 hb1
  obtain ⟨n2, hn2⟩ : ∃ z, z = (Pk.rI y1 b1).1 := ⟨_, rfl⟩
  obtain ⟨y2, hy2⟩ : ∃ z, z = (Pk.rI y1 b1).2.1 := ⟨_, rfl⟩
  obtain ⟨b2, hb2⟩ : ∃ z, z = (Pk.rI y1 b1).2.2 := ⟨_, rfl⟩
  have E2 : Hid (n2 = (Pk.rI y1 b1).1 ∧ y2 = (Pk.rI y1 b1).2.1 ∧ b2 = (Pk.rI y1 b1).2.2) := ⟨hn2, hy2, hb2⟩
  clear hn2 hy2 hb2
  obtain ⟨n3, hn3⟩ : ∃ z, z = (Pk.rI y2 b2).1 := ⟨_, rfl⟩
  obtain ⟨y3, hy3⟩ : ∃ z, z = (Pk.rI y2 b2).2.1 := ⟨_, rfl⟩
  obtain ⟨b3, hb3⟩ : ∃ z, z = (Pk.rI y2 b2).2.2 := ⟨_, rfl⟩
  have E3 : Hid (n3 = (Pk.rI y2 b2).1 ∧ y3 = (Pk.rI y2 b2).2.1 ∧ b3 = (Pk.rI y2 b2).2.2) := ⟨hn3, hy3, hb3⟩
  clear hn3 hy3 hb3
  obtain ⟨n4, hn4⟩ : ∃ z, z = (Pk.rI y3 b3).1 := ⟨_, rfl⟩
  obtain ⟨y4, hy4⟩ : ∃ z, z = (Pk.rI y3 b3).2.1 := ⟨_, rfl⟩
  obtain ⟨b4, hb4⟩ : ∃ z, z = (Pk.rI y3 b3).2.2 := ⟨_, rfl⟩
  have E4 : Hid (n4 = (Pk.rI y3 b3).1 ∧ y4 = (Pk.rI y3 b3).2.1 ∧ b4 = (Pk.rI y3 b3).2.2) := ⟨hn4, hy4, hb4⟩
  clear hn4 hy4 hb4
  obtain ⟨c, hc⟩ : ∃ c : Nat, (c : Int) = (Pk.rC 16 y4 b4).1 ∧ c ≤ 16 := ⟨(Pk.rC 16 y4 b4).1.toNat, by have := rC_within 16 (by decide) y4 b4; omega, by have := rC_within 16 (by decide) y4 b4; omega⟩
  obtain ⟨y5, hy5⟩ : ∃ y, y = (Pk.rC 16 y4 b4).2.1 := ⟨_, rfl⟩
  obtain ⟨b5, hb5⟩ : ∃ y, y = (Pk.rC 16 y4 b4).2.2 := ⟨_, rfl⟩
  have E5 : Hid ((c : Int) = (Pk.rC 16 y4 b4).1 ∧ y5 = (Pk.rC 16 y4 b4).2.1 ∧ b5 = (Pk.rC 16 y4 b4).2.2) := ⟨hc.1, hy5, hb5⟩
  have hc16 : c ≤ 16 := hc.2
  clear hc hy5 hb5
  have HHD : Hid (Rq.Head b n1 n2 n3 n4 c y5 b5) := Head.of E1.out E2.out E3.out E4.out E5.out
  refine (Pw.fI64_any qr _ b b false _ HR1.out.rf).mono ?_
  rintro e w2 ⟨rfl, hr, hg⟩
  rw [← E1.out.1]
  rw [← E1.out.2.1, ← E1.out.2.2] at hr
  have HR2 : Hid (RfB w w2 qr (.slice av nv cv) b y1 b1) := HR1.out.read hr
  have HA2 : Hid (RepV w2 q0 Rq.zero (.slice none 0 0)) := HA1.out.grown hg (by have := HQ.out; omega)
  have HB2 : Hid (Below w.heap.size w w2) := Below.reader HB1.out hg (Nat.le_refl _) (by have := HQ.out; omega)
  clear hr hg
  go_wp2_with fail
  refine (Pw.fI64_any qr _ b y1 b1 _ HR2.out.rf).mono ?_
  rintro e w3 ⟨rfl, hr, hg⟩
  rw [← E2.out.1]
  rw [← E2.out.2.1, ← E2.out.2.2] at hr
  have HR3 : Hid (RfB w w3 qr (.slice av nv cv) b y2 b2) := HR2.out.read hr
  have HA3 : Hid (RepV w3 q0 Rq.zero (.slice none 0 0)) := HA2.out.grown hg (by have := HQ.out; omega)
  have HB3 : Hid (Below w.heap.size w w3) := Below.reader HB2.out hg (Nat.le_refl _) (by have := HQ.out; omega)
  clear hr hg
  go_wp2_with fail
  refine (Pw.fI64_any qr _ b y2 b2 _ HR3.out.rf).mono ?_
  rintro e w4 ⟨rfl, hr, hg⟩
  rw [← E3.out.1]
  rw [← E3.out.2.1, ← E3.out.2.2] at hr
  have HR4 : Hid (RfB w w4 qr (.slice av nv cv) b y3 b3) := HR3.out.read hr
  have HA4 : Hid (RepV w4 q0 Rq.zero (.slice none 0 0)) := HA3.out.grown hg (by have := HQ.out; omega)
  have HB4 : Hid (Below w.heap.size w w4) := Below.reader HB3.out hg (Nat.le_refl _) (by have := HQ.out; omega)
  clear hr hg
  go_wp2_with fail
  refine (Pw.fI64_any qr _ b y3 b3 _ HR4.out.rf).mono ?_
  rintro e w5 ⟨rfl, hr, hg⟩
  rw [← E4.out.1]
  rw [← E4.out.2.1, ← E4.out.2.2] at hr
  have HR5 : Hid (RfB w w5 qr (.slice av nv cv) b y4 b4) := HR4.out.read hr
  have HA5 : Hid (RepV w5 q0 Rq.zero (.slice none 0 0)) := HA4.out.grown hg (by have := HQ.out; omega)
  have HB5 : Hid (Below w.heap.size w w5) := Below.reader HB4.out hg (Nat.le_refl _) (by have := HQ.out; omega)
  clear hr hg
  obtain ⟨qq, hqq⟩ : ∃ q, q = w5.heap.size := ⟨_, rfl⟩
  have HLT : Hid (qr < qq ∧ w.heap.size ≤ qq) := by
    have h1 := World.block_lt_of_cell? w5 _ HR5.out.rf.c0
    have h3 := HB5.out.size
    simp only [] at h1
    exact ⟨by omega, by omega⟩
  have HG6 : Hid (GetR w (w5.alloc (.cells #[.int .i64 n1, .int .i64 n2, .int .i64 n3, .int .i64 n4, .slice none 0 0] 40)) q0 qr qq ⟨n1, n2, n3, n4, []⟩ (.slice none 0 0) []) := by
    have hg : w5.grownBy (w5.alloc (.cells #[.int .i64 n1, .int .i64 n2, .int .i64 n3, .int .i64 n4, .slice none 0 0] 40)) (some qq) := World.grownBy_alloc _ _ _
    have hl := HLT.out
    have hq := HQ.out
    exact ⟨HA5.out.grown hg (by omega), by rw [hqq]; exact RepV.made w5 ⟨n1, n2, n3, n4, []⟩ _ _, Xo.nil _ _, by omega, by omega, by omega, Below.reader HB5.out hg (Nat.le_refl _) (by omega)⟩
  have HR6 : Hid (RfB w (w5.alloc (.cells #[.int .i64 n1, .int .i64 n2, .int .i64 n3, .int .i64 n4, .slice none 0 0] 40)) qr (.slice av nv cv) b y4 b4) := HR5.out.grown (World.grownBy_alloc _ _ (some qq)) (by have := HLT.out; omega) HLT.out.2
  go_wp2_with fail
  rw [← hqq]
  clear hqq
  generalize w5.alloc (.cells #[.int .i64 n1, .int .i64 n2, .int .i64 n3, .int .i64 n4, .slice none 0 0] 40) = w6 at *
  refine (Pw.fCount_any qr 16 _ b y4 b4 _ HR6.out.rf).mono ?_
  rintro e w7 ⟨rfl, hr, hg⟩
  rw [← E5.out.1]
  rw [← E5.out.2.1, ← E5.out.2.2] at hr
  have HR7 : Hid (RfB w w7 qr (.slice av nv cv) b y5 b5) := HR6.out.read hr
  have HG7 : Hid (GetR w w7 q0 qr qq ⟨n1, n2, n3, n4, []⟩ (.slice none 0 0) []) := HG6.out.read hg
  clear hr hg
  go_wp2
  go_loopw [7] (fun i wr => ∃ (k : Nat) (ys : List UInt8) (bad : Bool) (u : Value) (ps : List (X × Value)), k ≤ c ∧ i = .int .i64 (k : Int) ∧ ps.length = k ∧ GetR w wr q0 qr qq ⟨n1, n2, n3, n4, []⟩ u ps ∧ RfB w wr qr (.slice av nv cv) b ys bad ∧ Rq.rdXs c y5 b5 = (ps.map (·.1) ++ (Rq.rdXs (c - k) ys bad).1, (Rq.rdXs (c - k) ys bad).2)) (fun i _ => ((c : Int) - intOf i).toNat)
  case atStart => exact ⟨0, y5, b5, .slice none 0 0, [], Nat.zero_le _, rfl, rfl, HG7.out, HR7.out, by simp⟩
  case round =>
    obtain ⟨k, ys, bad, u, ps, hk, rfl, hpl, hgs, hrf, hrd⟩ := hrel
    obtain ⟨au, mu, cu, rfl⟩ : ∃ a m c, u = .slice a m c := by
      rcases hgs.own.own.2 with ⟨rfl, _⟩ | ⟨g, cap, cur, rfl, _⟩
      · exact ⟨_, _, _, rfl⟩
      · exact ⟨_, _, _, rfl⟩
    have HGS : Hid (GetR w wr q0 qr qq ⟨n1, n2, n3, n4, []⟩ (.slice au mu cu) ps) := hgs
    have HRS : Hid (RfB w wr qr (.slice av nv cv) b ys bad) := hrf
    have HRD : Hid (ps.length = k ∧ Rq.rdXs c y5 b5 = (ps.map (·.1) ++ (Rq.rdXs (c - k) ys bad).1, (Rq.rdXs (c - k) ys bad).2)) := ⟨hpl, hrd⟩
    clear hgs hrf hpl hrd
    have hb2c := HRS.out.rf.c2
    by_cases hgo : k < c ∧ bad = false
    · obtain ⟨hlt, hbad⟩ := hgo
      have hlt' : (k : Int) < (c : Int) := by omega
      subst hbad
      obtain ⟨V0, hV0⟩ : ∃ z, z = (Pk.rI ys false).1 := ⟨_, rfl⟩
      obtain ⟨yA, hyA⟩ : ∃ z, z = (Pk.rI ys false).2.1 := ⟨_, rfl⟩
      obtain ⟨bA, hbA⟩ : ∃ z, z = (Pk.rI ys false).2.2 := ⟨_, rfl⟩
      have F0 : Hid (V0 = (Pk.rI ys false).1 ∧ yA = (Pk.rI ys false).2.1 ∧ bA = (Pk.rI ys false).2.2) := ⟨hV0, hyA, hbA⟩
      clear hV0 hyA hbA
      obtain ⟨P0, hP0⟩ : ∃ z, z = (Pk.rT 20000 yA bA).1 := ⟨_, rfl⟩
      obtain ⟨yB, hyB⟩ : ∃ z, z = (Pk.rT 20000 yA bA).2.1 := ⟨_, rfl⟩
      obtain ⟨bB, hbB⟩ : ∃ z, z = (Pk.rT 20000 yA bA).2.2 := ⟨_, rfl⟩
      have F1 : Hid (P0 = (Pk.rT 20000 yA bA).1 ∧ yB = (Pk.rT 20000 yA bA).2.1 ∧ bB = (Pk.rT 20000 yA bA).2.2) := ⟨hP0, hyB, hbB⟩
      clear hP0 hyB hbB
      obtain ⟨D0, hD0⟩ : ∃ z, z = (Pk.rT 20000 yB bB).1 := ⟨_, rfl⟩
      obtain ⟨yC, hyC⟩ : ∃ z, z = (Pk.rT 20000 yB bB).2.1 := ⟨_, rfl⟩
      obtain ⟨bC, hbC⟩ : ∃ z, z = (Pk.rT 20000 yB bB).2.2 := ⟨_, rfl⟩
      have F2 : Hid (D0 = (Pk.rT 20000 yB bB).1 ∧ yC = (Pk.rT 20000 yB bB).2.1 ∧ bC = (Pk.rT 20000 yB bB).2.2) := ⟨hD0, hyC, hbC⟩
      clear hD0 hyC hbC
      obtain ⟨d, hd⟩ : ∃ d : Nat, (d : Int) = (Pk.rC 500 yC bC).1 ∧ d ≤ 500 := ⟨(Pk.rC 500 yC bC).1.toNat, by have := rC_within 500 (by decide) yC bC; omega, by have := rC_within 500 (by decide) yC bC; omega⟩
      obtain ⟨yD, hyD⟩ : ∃ y, y = (Pk.rC 500 yC bC).2.1 := ⟨_, rfl⟩
      obtain ⟨bD, hbD⟩ : ∃ y, y = (Pk.rC 500 yC bC).2.2 := ⟨_, rfl⟩
      have F3 : Hid ((d : Int) = (Pk.rC 500 yC bC).1 ∧ yD = (Pk.rC 500 yC bC).2.1 ∧ bD = (Pk.rC 500 yC bC).2.2) := ⟨hd.1, hyD, hbD⟩
      have hd500 : d ≤ 500 := hd.2
      clear hd hyD hbD
      obtain ⟨PB, hPB⟩ : ∃ z : ByteArray, z = ⟨P0.toArray⟩ := ⟨_, rfl⟩
      obtain ⟨DB, hDB⟩ : ∃ z : ByteArray, z = ⟨D0.toArray⟩ := ⟨_, rfl⟩
      have HPD : Hid (PB = ⟨P0.toArray⟩ ∧ DB = ⟨D0.toArray⟩) := ⟨hPB, hDB⟩
      clear hPB hDB
      go_wp2_with fail
      refine (Pw.fI64_any qr _ b ys false _ HRS.out.rf).mono ?_
      rintro e wA ⟨rfl, hr, hg⟩
      rw [← F0.out.1]
      rw [← F0.out.2.1, ← F0.out.2.2] at hr
      have HRA : Hid (RfB w wA qr (.slice av nv cv) b yA bA) := HRS.out.read hr
      have HGA : Hid (GetR w wA q0 qr qq ⟨n1, n2, n3, n4, []⟩ (.slice au mu cu) ps) := HGS.out.read hg
      clear hr hg hb2c
      obtain ⟨q8, hq8⟩ : ∃ q, q = wA.heap.size := ⟨_, rfl⟩
      have H8 : Hid (qr ≠ q8 ∧ w.heap.size ≤ q8) := by
        have l1 := World.block_lt_of_cell? wA _ HRA.out.rf.c0
        have l2 := HGA.out.below.size
        simp only [] at l1
        exact ⟨by omega, by omega⟩
      have HX1 : Hid (RoundX w (wA.alloc (.cells #[.int .i64 V0, .string ⟨#[]⟩, .string ⟨#[]⟩, .slice none 0 0, .int .i64 0, .int .i64 0, .int .i64 0, .int .i64 0, .int .i64 0, .int .i64 0, .int .i64 0] 35)) q0 qr qq q8 ⟨n1, n2, n3, n4, []⟩ (.slice au mu cu) ps ⟨V0, ⟨#[]⟩, ⟨#[]⟩, [], 0, 0, 0, 0, 0, 0, 0⟩ (.slice none 0 0)) := by
        rw [hq8]
        exact HGA.out.round V0 _
      have HR1 : Hid (RfB w (wA.alloc (.cells #[.int .i64 V0, .string ⟨#[]⟩, .string ⟨#[]⟩, .slice none 0 0, .int .i64 0, .int .i64 0, .int .i64 0, .int .i64 0, .int .i64 0, .int .i64 0, .int .i64 0] 35)) qr (.slice av nv cv) b yA bA) := HRA.out.grown (World.grownBy_alloc _ _ (some q8)) H8.out.1 H8.out.2
      go_wp2_with fail
      rw [← hq8]
      clear hq8
      generalize wA.alloc (.cells #[.int .i64 V0, .string ⟨#[]⟩, .string ⟨#[]⟩, .slice none 0 0, .int .i64 0, .int .i64 0, .int .i64 0, .int .i64 0, .int .i64 0, .int .i64 0, .int .i64 0] 35) = wB at *
      refine (Pw.fText_any qr 20000 _ b yA bA _ HR1.out.rf).mono ?_
      rintro e wC ⟨rfl, hr, hg⟩
      rw [← F1.out.1, ← HPD.out.1]
      rw [← F1.out.2.1, ← F1.out.2.2] at hr
      have HRwC : Hid (RfB w wC qr (.slice av nv cv) b yB bB) := HR1.out.read hr
      have HXwC : Hid (RoundX w wC q0 qr qq q8 ⟨n1, n2, n3, n4, []⟩ (.slice au mu cu) ps ⟨V0, ⟨#[]⟩, ⟨#[]⟩, [], 0, 0, 0, 0, 0, 0, 0⟩ (.slice none 0 0)) := HX1.out.read hg
      clear hr hg
      have hcl := HXwC.out.box.box.c1
      have hfz := HXwC.out.box.free 1
      simp only [] at hcl
      have HXwD : Hid (RoundX w (wC.setCell ⟨q8, 1, none⟩ (.string PB)) q0 qr qq q8 ⟨n1, n2, n3, n4, []⟩ (.slice au mu cu) ps ⟨V0, PB, ⟨#[]⟩, [], 0, 0, 0, 0, 0, 0, 0⟩ (.slice none 0 0)) := HXwC.out.set 1 _ (HXwC.out.box.set1 PB) rfl
      have HRwD : Hid (RfB w (wC.setCell ⟨q8, 1, none⟩ (.string PB)) qr (.slice av nv cv) b yB bB) := HRwC.out.grown (grownBy_setCell wC ⟨q8, 1, none⟩ _) H8.out.1 H8.out.2
      go_wp2_with fail
      clear hcl hfz
      generalize wC.setCell ⟨q8, 1, none⟩ (.string PB) = wD at *
      refine (Pw.fText_any qr 20000 _ b yB bB _ HRwD.out.rf).mono ?_
      rintro e wE ⟨rfl, hr, hg⟩
      rw [← F2.out.1, ← HPD.out.2]
      rw [← F2.out.2.1, ← F2.out.2.2] at hr
      have HRwE : Hid (RfB w wE qr (.slice av nv cv) b yC bC) := HRwD.out.read hr
      have HXwE : Hid (RoundX w wE q0 qr qq q8 ⟨n1, n2, n3, n4, []⟩ (.slice au mu cu) ps ⟨V0, PB, ⟨#[]⟩, [], 0, 0, 0, 0, 0, 0, 0⟩ (.slice none 0 0)) := HXwD.out.read hg
      clear hr hg
      have hcl := HXwE.out.box.box.c2
      have hfz := HXwE.out.box.free 2
      simp only [] at hcl
      have HXwF : Hid (RoundX w (wE.setCell ⟨q8, 2, none⟩ (.string DB)) q0 qr qq q8 ⟨n1, n2, n3, n4, []⟩ (.slice au mu cu) ps ⟨V0, PB, DB, [], 0, 0, 0, 0, 0, 0, 0⟩ (.slice none 0 0)) := HXwE.out.set 2 _ (HXwE.out.box.set2 DB) rfl
      have HRwF : Hid (RfB w (wE.setCell ⟨q8, 2, none⟩ (.string DB)) qr (.slice av nv cv) b yC bC) := HRwE.out.grown (grownBy_setCell wE ⟨q8, 2, none⟩ _) H8.out.1 H8.out.2
      go_wp2_with fail
      clear hcl hfz
      generalize wE.setCell ⟨q8, 2, none⟩ (.string DB) = wF at *
      refine (Pw.fCount_any qr 500 _ b yC bC _ HRwF.out.rf).mono ?_
      rintro e wG ⟨rfl, hr, hg⟩
      rw [← F3.out.1]
      rw [← F3.out.2.1, ← F3.out.2.2] at hr
      have HRwG : Hid (RfB w wG qr (.slice av nv cv) b yD bD) := HRwF.out.read hr
      have HXwG : Hid (RoundX w wG q0 qr qq q8 ⟨n1, n2, n3, n4, []⟩ (.slice au mu cu) ps ⟨V0, PB, DB, [], 0, 0, 0, 0, 0, 0, 0⟩ (.slice none 0 0)) := HXwF.out.read hg
      clear hr hg
      go_wp2
      go_loopw [10] (fun i wr => ∃ (j : Nat) (ys : List UInt8) (bad : Bool) (nv' : Value) (ts : List ByteArray), j ≤ d ∧ i = .int .i64 (j : Int) ∧ ts.length = j ∧ RoundX w wr q0 qr qq q8 ⟨n1, n2, n3, n4, []⟩ (.slice au mu cu) ps ⟨V0, PB, DB, ts, 0, 0, 0, 0, 0, 0, 0⟩ nv' ∧ RfB w wr qr (.slice av nv cv) b ys bad ∧ Rq.rdN d yD bD = (ts ++ (Rq.rdN (d - j) ys bad).1, (Rq.rdN (d - j) ys bad).2)) (fun i _ => ((d : Int) - intOf i).toNat)
      case atStart => exact ⟨0, yD, bD, .slice none 0 0, [], Nat.zero_le _, rfl, rfl, HXwG.out, HRwG.out, by simp⟩
      case round =>
        obtain ⟨j, ys2, bad2, nv2, ts, hj, rfl, htl, hgx, hrf, hrd⟩ := hrel
        obtain ⟨an, mn, cn, rfl⟩ : ∃ a m c, nv2 = .slice a m c := by
          rcases hgx.nm.2 with ⟨rfl, _⟩ | ⟨g, cap, cur, rfl, _⟩
          · exact ⟨_, _, _, rfl⟩
          · exact ⟨_, _, _, rfl⟩
        have HXH : Hid (RoundX w wr q0 qr qq q8 ⟨n1, n2, n3, n4, []⟩ (.slice au mu cu) ps ⟨V0, PB, DB, ts, 0, 0, 0, 0, 0, 0, 0⟩ (.slice an mn cn)) := hgx
        have HRH : Hid (RfB w wr qr (.slice av nv cv) b ys2 bad2) := hrf
        have HRN : Hid (ts.length = j ∧ Rq.rdN d yD bD = (ts ++ (Rq.rdN (d - j) ys2 bad2).1, (Rq.rdN (d - j) ys2 bad2).2)) := ⟨htl, hrd⟩
        clear hgx hrf htl hrd
        have hb2c := HRH.out.rf.c2
        by_cases hgo2 : j < d ∧ bad2 = false
        · obtain ⟨hlt2, hbad2⟩ := hgo2
          have hlt2' : (j : Int) < (d : Int) := by omega
          subst hbad2
          obtain ⟨T0, hT0⟩ : ∃ z, z = (Pk.rT 20000 ys2 false).1 := ⟨_, rfl⟩
          obtain ⟨yT, hyT⟩ : ∃ z, z = (Pk.rT 20000 ys2 false).2.1 := ⟨_, rfl⟩
          obtain ⟨bT, hbT⟩ : ∃ z, z = (Pk.rT 20000 ys2 false).2.2 := ⟨_, rfl⟩
          have G0 : Hid (T0 = (Pk.rT 20000 ys2 false).1 ∧ yT = (Pk.rT 20000 ys2 false).2.1 ∧ bT = (Pk.rT 20000 ys2 false).2.2) := ⟨hT0, hyT, hbT⟩
          clear hT0 hyT hbT
          obtain ⟨TB, hTB⟩ : ∃ z : ByteArray, z = ⟨T0.toArray⟩ := ⟨_, rfl⟩
          have HTB : Hid (TB = ⟨T0.toArray⟩) := hTB
          clear hTB
          have HRN2 : Hid ((ts ++ [TB]).length = j + 1 ∧ Rq.rdN d yD bD = ((ts ++ [TB]) ++ (Rq.rdN (d - (j + 1)) yT bT).1, (Rq.rdN (d - (j + 1)) yT bT).2)) := by
            refine ⟨by rw [List.length_append, HRN.out.1]; rfl, ?_⟩
            have h := Rq.rdN_step hlt2 HRN.out.2
            rw [← G0.out.1, ← G0.out.2.1, ← G0.out.2.2, ← HTB.out] at h
            exact h
          have HTL : Hid (ts.length ≤ 500) := by have := HRN.out.1; exact (by omega : ts.length ≤ 500)
          have HXX : Hid (RoundX w wr.drew q0 qr qq q8 ⟨n1, n2, n3, n4, []⟩ (.slice au mu cu) ps ⟨V0, PB, DB, ts, 0, 0, 0, 0, 0, 0, 0⟩ (.slice an mn cn)) := HXH.out.drew
          have HRX : Hid (RfB w wr.drew qr (.slice av nv cv) b ys2 false) := HRH.out.drew
          go_wp2_with fail
          clear hb2c
          refine wp_region_held_drew (S := fun _ => True) (by kernel_rfl) trivial (fun _ => ?_)
          generalize wr.drew = wX at *
          refine' take_at (i := 0) (d := 60) (v := _) rfl rfl (by kernel_rfl) (by kernel_rfl) (by kernel_rfl) (fun _ _ _ h => h) (Or.inl ⟨by rfl, ?h0⟩) trivial ?_
          case h0 => intro w hSw; go_simp; with_reducible rfl
          simp only [List.setIfInBounds_toArray, List.set_cons_zero, List.set_cons_succ]
          refine' take_at (i := 2) (d := 62) (v := _) rfl rfl (by kernel_rfl) (by kernel_rfl) (by kernel_rfl) (fun _ _ _ h => h) (Or.inl ⟨by rfl, ?h2⟩) trivial ?_
          case h2 => intro w hSw; go_simp; with_reducible rfl
          simp only [List.setIfInBounds_toArray, List.set_cons_zero, List.set_cons_succ]
          refine wpAnyH_ready (rs := [1, 3]) (by kernel_rfl) (by simp) ?_
          refine AllReadyH.cons (o := _) rfl (fun K hK => ?_) (AllReadyH.cons (o := _) rfl (fun K hK => ?_) AllReadyH.nil)
          · have hc2 := HXX.out.box.box.c3
            go_simp
            clear hc2
            refine hK.out _ _ trivial (fun _ => ?_)
            clear hK K
            refine wpAnyH_ready (rs := [3]) (by kernel_rfl) (by simp) ?_
            refine AllReadyH.cons (o := _) rfl (fun K hK => ?_) AllReadyH.nil
            go_simp
            refine (Pw.fText_any qr 20000 _ b ys2 false _ HRX.out.rf).mono ?_
            rintro e wY ⟨rfl, hr, hg⟩
            rw [← G0.out.1, ← HTB.out]
            rw [← G0.out.2.1, ← G0.out.2.2] at hr
            have HRY : Hid (RfB w wY qr (.slice av nv cv) b yT bT) := HRX.out.read hr
            have HXY : Hid (RoundX w wY q0 qr qq q8 ⟨n1, n2, n3, n4, []⟩ (.slice au mu cu) ps ⟨V0, PB, DB, ts, 0, 0, 0, 0, 0, 0, 0⟩ (.slice an mn cn)) := HXX.out.read hg
            clear hr hg
            simp only []
            refine hK.out _ _ trivial (fun _ => ?_)
            clear hK K
            refine wpAnyH_ready (rs := [4]) (by kernel_rfl) (by simp) ?_
            refine AllReadyH.cons (o := _) rfl (fun K hK => ?_) AllReadyH.nil
            go_simp
            refine hK.out _ _ trivial (fun _ => ?_)
            clear hK K
            obtain ⟨qa, hqa⟩ : ∃ q, q = wY.heap.size := ⟨_, rfl⟩
            rw [← hqa]
            refine wpAnyH_ready (rs := [5]) (by kernel_rfl) (by simp) ?_
            refine AllReadyH.cons (o := _) rfl (fun K hK => ?_) AllReadyH.nil
            refine wp_strs _ _ rfl (q8 + 1) (.slice an mn cn) (.slice (some ⟨qa, 0, none⟩) 1 1) ts [TB] _ rfl rfl (HXY.out.nm.alloc _) (by rw [World.size_alloc]; have := HXY.out.box.lt; omega) (by rw [hqa]; exact Src.one wY TB _) (by have := HTL.out; simp only [List.length_cons, List.length_nil]; omega) ?_
            intro u2 wZ ho2 _ hg2
            obtain ⟨kz, hkz1, hkz2⟩ := HXY.out.where_ (World.grownBy_alloc _ _ none) hg2
            have HVZ : Hid (XV wZ q8 ⟨V0, PB, DB, ts, 0, 0, 0, 0, 0, 0, 0⟩ (.slice an mn cn)) := HXY.out.box.grown hkz1 (by omega)
            have HRZ : Hid (RfB w wZ qr (.slice av nv cv) b yT bT) := HRY.out.grown hkz1 (by have := HXY.out.st.rq; have := HXY.out.h8; omega) (by have := H8.out.2; omega)
            obtain ⟨a2, m2, cc2, rfl⟩ : ∃ a m c, u2 = .slice a m c := by
              rcases ho2.2 with ⟨rfl, _⟩ | ⟨g, cap, cur, rfl, _⟩
              · exact ⟨_, _, _, rfl⟩
              · exact ⟨_, _, _, rfl⟩
            have HXZ : Hid (RoundX w (wZ.setCell ⟨q8, 3, none⟩ (.slice a2 m2 cc2)) q0 qr qq q8 ⟨n1, n2, n3, n4, []⟩ (.slice au mu cu) ps ⟨V0, PB, DB, (ts ++ [TB]), 0, 0, 0, 0, 0, 0, 0⟩ (.slice a2 m2 cc2)) := HXY.out.name (World.grownBy_alloc _ _ none) hg2 ho2
            have HRZ2 : Hid (RfB w (wZ.setCell ⟨q8, 3, none⟩ (.slice a2 m2 cc2)) qr (.slice av nv cv) b yT bT) := HRZ.out.grown (grownBy_setCell wZ ⟨q8, 3, none⟩ _) H8.out.1 H8.out.2
            clear ho2 hg2 hqa hkz1 hkz2
            go_simp
            refine hK.out _ _ trivial (fun _ => ?_)
            clear hK K
            refine' take_at (i := 6) (d := 66) (v := _) rfl rfl (by kernel_rfl) (by kernel_rfl) (by kernel_rfl) (fun _ _ _ h => h) (Or.inl ⟨by rfl, ?h6⟩) trivial ?_
            case h6 => intro w hSw; go_simp; with_reducible rfl
            simp only [List.setIfInBounds_toArray, List.set_cons_zero, List.set_cons_succ]
            refine wpAnyH_ready (rs := [7]) (by kernel_rfl) (by simp) ?_
            refine AllReadyH.cons (o := _) rfl (fun K hK => ?_) AllReadyH.nil
            have hc2 := HVZ.out.box.c3
            have hf2 := HVZ.out.free 3
            go_simp
            clear hc2 hf2
            refine hK.out _ _ trivial (fun _ => ?_)
            clear hK K
            refine wpAnyH_done (by kernel_rfl) ?_ _
            generalize wZ.setCell ⟨q8, 3, none⟩ (.slice a2 m2 cc2) = wW at *
            go_wp2
            go_roundw
            case rel => exact ⟨j + 1, yT, bT, .slice a2 m2 cc2, ts ++ [TB], by omega, by go_num, HRN2.out.1, HXZ.out, HRZ2.out, HRN2.out.2⟩
            case measure => simp [intOf]; omega
          · go_simp
            refine (Pw.fText_any qr 20000 _ b ys2 false _ HRX.out.rf).mono ?_
            rintro e wY ⟨rfl, hr, hg⟩
            rw [← G0.out.1, ← HTB.out]
            rw [← G0.out.2.1, ← G0.out.2.2] at hr
            have HRY : Hid (RfB w wY qr (.slice av nv cv) b yT bT) := HRX.out.read hr
            have HXY : Hid (RoundX w wY q0 qr qq q8 ⟨n1, n2, n3, n4, []⟩ (.slice au mu cu) ps ⟨V0, PB, DB, ts, 0, 0, 0, 0, 0, 0, 0⟩ (.slice an mn cn)) := HXX.out.read hg
            clear hr hg
            simp only []
            refine hK.out _ _ trivial (fun _ => ?_)
            clear hK K
            refine wpAnyH_ready (rs := [1, 4]) (by kernel_rfl) (by simp) ?_
            refine AllReadyH.cons (o := _) rfl (fun K hK => ?_) (AllReadyH.cons (o := _) rfl (fun K hK => ?_) AllReadyH.nil)
            · have hc2 := HXY.out.box.box.c3
              go_simp
              clear hc2
              refine hK.out _ _ trivial (fun _ => ?_)
              clear hK K
              refine wpAnyH_ready (rs := [4]) (by kernel_rfl) (by simp) ?_
              refine AllReadyH.cons (o := _) rfl (fun K hK => ?_) AllReadyH.nil
              go_simp
              refine hK.out _ _ trivial (fun _ => ?_)
              clear hK K
              obtain ⟨qa, hqa⟩ : ∃ q, q = wY.heap.size := ⟨_, rfl⟩
              rw [← hqa]
              refine wpAnyH_ready (rs := [5]) (by kernel_rfl) (by simp) ?_
              refine AllReadyH.cons (o := _) rfl (fun K hK => ?_) AllReadyH.nil
              refine wp_strs _ _ rfl (q8 + 1) (.slice an mn cn) (.slice (some ⟨qa, 0, none⟩) 1 1) ts [TB] _ rfl rfl (HXY.out.nm.alloc _) (by rw [World.size_alloc]; have := HXY.out.box.lt; omega) (by rw [hqa]; exact Src.one wY TB _) (by have := HTL.out; simp only [List.length_cons, List.length_nil]; omega) ?_
              intro u2 wZ ho2 _ hg2
              obtain ⟨kz, hkz1, hkz2⟩ := HXY.out.where_ (World.grownBy_alloc _ _ none) hg2
              have HVZ : Hid (XV wZ q8 ⟨V0, PB, DB, ts, 0, 0, 0, 0, 0, 0, 0⟩ (.slice an mn cn)) := HXY.out.box.grown hkz1 (by omega)
              have HRZ : Hid (RfB w wZ qr (.slice av nv cv) b yT bT) := HRY.out.grown hkz1 (by have := HXY.out.st.rq; have := HXY.out.h8; omega) (by have := H8.out.2; omega)
              obtain ⟨a2, m2, cc2, rfl⟩ : ∃ a m c, u2 = .slice a m c := by
                rcases ho2.2 with ⟨rfl, _⟩ | ⟨g, cap, cur, rfl, _⟩
                · exact ⟨_, _, _, rfl⟩
                · exact ⟨_, _, _, rfl⟩
              have HXZ : Hid (RoundX w (wZ.setCell ⟨q8, 3, none⟩ (.slice a2 m2 cc2)) q0 qr qq q8 ⟨n1, n2, n3, n4, []⟩ (.slice au mu cu) ps ⟨V0, PB, DB, (ts ++ [TB]), 0, 0, 0, 0, 0, 0, 0⟩ (.slice a2 m2 cc2)) := HXY.out.name (World.grownBy_alloc _ _ none) hg2 ho2
              have HRZ2 : Hid (RfB w (wZ.setCell ⟨q8, 3, none⟩ (.slice a2 m2 cc2)) qr (.slice av nv cv) b yT bT) := HRZ.out.grown (grownBy_setCell wZ ⟨q8, 3, none⟩ _) H8.out.1 H8.out.2
              clear ho2 hg2 hqa hkz1 hkz2
              go_simp
              refine hK.out _ _ trivial (fun _ => ?_)
              clear hK K
              refine' take_at (i := 6) (d := 66) (v := _) rfl rfl (by kernel_rfl) (by kernel_rfl) (by kernel_rfl) (fun _ _ _ h => h) (Or.inl ⟨by rfl, ?h6⟩) trivial ?_
              case h6 => intro w hSw; go_simp; with_reducible rfl
              simp only [List.setIfInBounds_toArray, List.set_cons_zero, List.set_cons_succ]
              refine wpAnyH_ready (rs := [7]) (by kernel_rfl) (by simp) ?_
              refine AllReadyH.cons (o := _) rfl (fun K hK => ?_) AllReadyH.nil
              have hc2 := HVZ.out.box.c3
              have hf2 := HVZ.out.free 3
              go_simp
              clear hc2 hf2
              refine hK.out _ _ trivial (fun _ => ?_)
              clear hK K
              refine wpAnyH_done (by kernel_rfl) ?_ _
              generalize wZ.setCell ⟨q8, 3, none⟩ (.slice a2 m2 cc2) = wW at *
              go_wp2
              go_roundw
              case rel => exact ⟨j + 1, yT, bT, .slice a2 m2 cc2, ts ++ [TB], by omega, by go_num, HRN2.out.1, HXZ.out, HRZ2.out, HRN2.out.2⟩
              case measure => simp [intOf]; omega
            · go_simp
              refine hK.out _ _ trivial (fun _ => ?_)
              clear hK K
              refine wpAnyH_ready (rs := [1]) (by kernel_rfl) (by simp) ?_
              refine AllReadyH.cons (o := _) rfl (fun K hK => ?_) AllReadyH.nil
              have hc2 : (wY.alloc (.cells #[.string TB] 9)).cell? ⟨q8, 3, none⟩ = some (.slice an mn cn) := Below.kept ((Below.refl _ wY).alloc (Nat.le_refl _) _) HXY.out.box.box.c3
              go_simp
              clear hc2
              refine hK.out _ _ trivial (fun _ => ?_)
              clear hK K
              obtain ⟨qa, hqa⟩ : ∃ q, q = wY.heap.size := ⟨_, rfl⟩
              rw [← hqa]
              refine wpAnyH_ready (rs := [5]) (by kernel_rfl) (by simp) ?_
              refine AllReadyH.cons (o := _) rfl (fun K hK => ?_) AllReadyH.nil
              refine wp_strs _ _ rfl (q8 + 1) (.slice an mn cn) (.slice (some ⟨qa, 0, none⟩) 1 1) ts [TB] _ rfl rfl (HXY.out.nm.alloc _) (by rw [World.size_alloc]; have := HXY.out.box.lt; omega) (by rw [hqa]; exact Src.one wY TB _) (by have := HTL.out; simp only [List.length_cons, List.length_nil]; omega) ?_
              intro u2 wZ ho2 _ hg2
              obtain ⟨kz, hkz1, hkz2⟩ := HXY.out.where_ (World.grownBy_alloc _ _ none) hg2
              have HVZ : Hid (XV wZ q8 ⟨V0, PB, DB, ts, 0, 0, 0, 0, 0, 0, 0⟩ (.slice an mn cn)) := HXY.out.box.grown hkz1 (by omega)
              have HRZ : Hid (RfB w wZ qr (.slice av nv cv) b yT bT) := HRY.out.grown hkz1 (by have := HXY.out.st.rq; have := HXY.out.h8; omega) (by have := H8.out.2; omega)
              obtain ⟨a2, m2, cc2, rfl⟩ : ∃ a m c, u2 = .slice a m c := by
                rcases ho2.2 with ⟨rfl, _⟩ | ⟨g, cap, cur, rfl, _⟩
                · exact ⟨_, _, _, rfl⟩
                · exact ⟨_, _, _, rfl⟩
              have HXZ : Hid (RoundX w (wZ.setCell ⟨q8, 3, none⟩ (.slice a2 m2 cc2)) q0 qr qq q8 ⟨n1, n2, n3, n4, []⟩ (.slice au mu cu) ps ⟨V0, PB, DB, (ts ++ [TB]), 0, 0, 0, 0, 0, 0, 0⟩ (.slice a2 m2 cc2)) := HXY.out.name (World.grownBy_alloc _ _ none) hg2 ho2
              have HRZ2 : Hid (RfB w (wZ.setCell ⟨q8, 3, none⟩ (.slice a2 m2 cc2)) qr (.slice av nv cv) b yT bT) := HRZ.out.grown (grownBy_setCell wZ ⟨q8, 3, none⟩ _) H8.out.1 H8.out.2
              clear ho2 hg2 hqa hkz1 hkz2
              go_simp
              refine hK.out _ _ trivial (fun _ => ?_)
              clear hK K
              refine' take_at (i := 6) (d := 66) (v := _) rfl rfl (by kernel_rfl) (by kernel_rfl) (by kernel_rfl) (fun _ _ _ h => h) (Or.inl ⟨by rfl, ?h6⟩) trivial ?_
              case h6 => intro w hSw; go_simp; with_reducible rfl
              simp only [List.setIfInBounds_toArray, List.set_cons_zero, List.set_cons_succ]
              refine wpAnyH_ready (rs := [7]) (by kernel_rfl) (by simp) ?_
              refine AllReadyH.cons (o := _) rfl (fun K hK => ?_) AllReadyH.nil
              have hc2 := HVZ.out.box.c3
              have hf2 := HVZ.out.free 3
              go_simp
              clear hc2 hf2
              refine hK.out _ _ trivial (fun _ => ?_)
              clear hK K
              refine wpAnyH_done (by kernel_rfl) ?_ _
              generalize wZ.setCell ⟨q8, 3, none⟩ (.slice a2 m2 cc2) = wW at *
              go_wp2
              go_roundw
              case rel => exact ⟨j + 1, yT, bT, .slice a2 m2 cc2, ts ++ [TB], by omega, by go_num, HRN2.out.1, HXZ.out, HRZ2.out, HRN2.out.2⟩
              case measure => simp [intOf]; omega
        · have hx : Rq.rdN d yD bD = (ts, ys2, bad2) := by
            have h := HRN.out.2
            by_cases hjd : j < d
            · have hbt : bad2 = true := by
                cases bad2 with
                | true => rfl
                | false => exact absurd ⟨hjd, rfl⟩ hgo2
              subst hbt
              rw [Rq.rdN_bad] at h
              rw [h]
              simp
            · have e : d - j = 0 := by omega
              rw [e, Rq.rdN] at h
              rw [h]
              simp
          have HXN : Hid (Rq.rdN d yD bD = (ts, ys2, bad2)) := hx
          clear hx
          have hcase : (j < d ∧ bad2 = true) ∨ d ≤ j := by
            by_cases hjd : j < d
            · refine Or.inl ⟨hjd, ?_⟩
              cases bad2 with
              | true => rfl
              | false => exact absurd ⟨hjd, rfl⟩ hgo2
            · exact Or.inr (by omega)
          clear hgo2
          obtain ⟨M0, hM0⟩ : ∃ z, z = (Pk.rI ys2 bad2).1 := ⟨_, rfl⟩
          obtain ⟨z0, hz0⟩ : ∃ z, z = (Pk.rI ys2 bad2).2.1 := ⟨_, rfl⟩
          obtain ⟨c0, hc0⟩ : ∃ z, z = (Pk.rI ys2 bad2).2.2 := ⟨_, rfl⟩
          have S0 : Hid (M0 = (Pk.rI ys2 bad2).1 ∧ z0 = (Pk.rI ys2 bad2).2.1 ∧ c0 = (Pk.rI ys2 bad2).2.2) := ⟨hM0, hz0, hc0⟩
          clear hM0 hz0 hc0
          obtain ⟨M1, hM1⟩ : ∃ z, z = (Pk.rI z0 c0).1 := ⟨_, rfl⟩
          obtain ⟨z1, hz1⟩ : ∃ z, z = (Pk.rI z0 c0).2.1 := ⟨_, rfl⟩
          obtain ⟨c1, hc1⟩ : ∃ z, z = (Pk.rI z0 c0).2.2 := ⟨_, rfl⟩
          have S1 : Hid (M1 = (Pk.rI z0 c0).1 ∧ z1 = (Pk.rI z0 c0).2.1 ∧ c1 = (Pk.rI z0 c0).2.2) := ⟨hM1, hz1, hc1⟩
          clear hM1 hz1 hc1
          obtain ⟨M2, hM2⟩ : ∃ z, z = (Pk.rI z1 c1).1 := ⟨_, rfl⟩
          obtain ⟨z2, hz2⟩ : ∃ z, z = (Pk.rI z1 c1).2.1 := ⟨_, rfl⟩
          obtain ⟨c2, hc2⟩ : ∃ z, z = (Pk.rI z1 c1).2.2 := ⟨_, rfl⟩
          have S2 : Hid (M2 = (Pk.rI z1 c1).1 ∧ z2 = (Pk.rI z1 c1).2.1 ∧ c2 = (Pk.rI z1 c1).2.2) := ⟨hM2, hz2, hc2⟩
          clear hM2 hz2 hc2
          obtain ⟨M3, hM3⟩ : ∃ z, z = (Pk.rI z2 c2).1 := ⟨_, rfl⟩
          obtain ⟨z3, hz3⟩ : ∃ z, z = (Pk.rI z2 c2).2.1 := ⟨_, rfl⟩
          obtain ⟨c3, hc3⟩ : ∃ z, z = (Pk.rI z2 c2).2.2 := ⟨_, rfl⟩
          have S3 : Hid (M3 = (Pk.rI z2 c2).1 ∧ z3 = (Pk.rI z2 c2).2.1 ∧ c3 = (Pk.rI z2 c2).2.2) := ⟨hM3, hz3, hc3⟩
          clear hM3 hz3 hc3
          obtain ⟨M4, hM4⟩ : ∃ z, z = (Pk.rI z3 c3).1 := ⟨_, rfl⟩
          obtain ⟨z4, hz4⟩ : ∃ z, z = (Pk.rI z3 c3).2.1 := ⟨_, rfl⟩
          obtain ⟨c4, hc4⟩ : ∃ z, z = (Pk.rI z3 c3).2.2 := ⟨_, rfl⟩
          have S4 : Hid (M4 = (Pk.rI z3 c3).1 ∧ z4 = (Pk.rI z3 c3).2.1 ∧ c4 = (Pk.rI z3 c3).2.2) := ⟨hM4, hz4, hc4⟩
          clear hM4 hz4 hc4
          obtain ⟨M5, hM5⟩ : ∃ z, z = (Pk.rI z4 c4).1 := ⟨_, rfl⟩
          obtain ⟨z5, hz5⟩ : ∃ z, z = (Pk.rI z4 c4).2.1 := ⟨_, rfl⟩
          obtain ⟨c5, hc5⟩ : ∃ z, z = (Pk.rI z4 c4).2.2 := ⟨_, rfl⟩
          have S5 : Hid (M5 = (Pk.rI z4 c4).1 ∧ z5 = (Pk.rI z4 c4).2.1 ∧ c5 = (Pk.rI z4 c4).2.2) := ⟨hM5, hz5, hc5⟩
          clear hM5 hz5 hc5
          obtain ⟨M6, hM6⟩ : ∃ z, z = (Pk.rI z5 c5).1 := ⟨_, rfl⟩
          obtain ⟨z6, hz6⟩ : ∃ z, z = (Pk.rI z5 c5).2.1 := ⟨_, rfl⟩
          obtain ⟨c6, hc6⟩ : ∃ z, z = (Pk.rI z5 c5).2.2 := ⟨_, rfl⟩
          have S6 : Hid (M6 = (Pk.rI z5 c5).1 ∧ z6 = (Pk.rI z5 c5).2.1 ∧ c6 = (Pk.rI z5 c5).2.2) := ⟨hM6, hz6, hc6⟩
          clear hM6 hz6 hc6
          have HRO : Hid (Rq.rdX ys false = (⟨V0, PB, DB, ts, M0, M1, M2, M3, M4, M5, M6⟩, z6, c6)) := by
            have h : Rq.rdX ys false = (⟨V0, PB, DB, ts, M0, M1, M2, M3, M4, M5, M6⟩, z6, c6) := by
              have hd0 : (Pk.rC 500 yC bC).1.toNat = d := by have := F3.out.1; omega
              unfold Rq.rdX
              simp only []
              rw [← F0.out.1, ← F0.out.2.1, ← F0.out.2.2, ← F1.out.1, ← F1.out.2.1, ← F1.out.2.2, ← F2.out.1, ← F2.out.2.1, ← F2.out.2.2, hd0, ← F3.out.2.1, ← F3.out.2.2, HXN.out]
              unfold Rq.rdS
              simp only []
              rw [← S0.out.1, ← S0.out.2.1, ← S0.out.2.2, ← S1.out.1, ← S1.out.2.1, ← S1.out.2.2, ← S2.out.1, ← S2.out.2.1, ← S2.out.2.2, ← S3.out.1, ← S3.out.2.1, ← S3.out.2.2, ← S4.out.1, ← S4.out.2.1, ← S4.out.2.2, ← S5.out.1, ← S5.out.2.1, ← S5.out.2.2, ← S6.out.1, ← S6.out.2.1, ← S6.out.2.2, ← HPD.out.1, ← HPD.out.2]
            exact h
          have HRD2 : Hid ((ps ++ [((⟨V0, PB, DB, ts, M0, M1, M2, M3, M4, M5, M6⟩ : X), (Value.slice an mn cn))]).length = k + 1 ∧ Rq.rdXs c y5 b5 = ((ps ++ [((⟨V0, PB, DB, ts, M0, M1, M2, M3, M4, M5, M6⟩ : X), (Value.slice an mn cn))]).map (·.1) ++ (Rq.rdXs (c - (k + 1)) z6 c6).1, (Rq.rdXs (c - (k + 1)) z6 c6).2)) := by
            refine ⟨by rw [List.length_append, HRD.out.1]; rfl, ?_⟩
            have h := Rq.rdXs_step hlt HRD.out.2
            rw [HRO.out] at h
            rw [List.map_append]
            exact h
          have HPL : Hid (ps.length ≤ 1000) := by have := HRD.out.1; exact (by omega : ps.length ≤ 1000)
          rcases hcase with ⟨hjd, hbt⟩ | hjd
          · have hjd' : (j : Int) < (d : Int) := by omega
            rw [hbt] at hb2c
            go_wp2_with fail
            clear hb2c
            refine (Pw.fI64_any qr _ b ys2 bad2 _ HRH.out.rf).mono ?_
            rintro e wc0 ⟨rfl, hr, hg⟩
            rw [← S0.out.1]
            rw [← S0.out.2.1, ← S0.out.2.2] at hr
            have HRwc0 : Hid (RfB w wc0 qr (.slice av nv cv) b z0 c0) := HRH.out.read hr
            have HXwc0 : Hid (RoundX w wc0 q0 qr qq q8 ⟨n1, n2, n3, n4, []⟩ (.slice au mu cu) ps ⟨V0, PB, DB, ts, 0, 0, 0, 0, 0, 0, 0⟩ (.slice an mn cn)) := HXH.out.read hg
            clear hr hg
            have hcl := HXwc0.out.box.box.c4
            have hfz := HXwc0.out.box.free 4
            simp only [] at hcl
            have HXwd0 : Hid (RoundX w (wc0.setCell ⟨q8, 4, none⟩ (.int .i64 M0)) q0 qr qq q8 ⟨n1, n2, n3, n4, []⟩ (.slice au mu cu) ps ⟨V0, PB, DB, ts, M0, 0, 0, 0, 0, 0, 0⟩ (.slice an mn cn)) := HXwc0.out.set 4 _ (HXwc0.out.box.set4 M0) rfl
            have HRwd0 : Hid (RfB w (wc0.setCell ⟨q8, 4, none⟩ (.int .i64 M0)) qr (.slice av nv cv) b z0 c0) := HRwc0.out.grown (grownBy_setCell wc0 ⟨q8, 4, none⟩ _) H8.out.1 H8.out.2
            go_wp2_with fail
            clear hcl hfz
            generalize wc0.setCell ⟨q8, 4, none⟩ (.int .i64 M0) = wd0 at *
            refine (Pw.fI64_any qr _ b z0 c0 _ HRwd0.out.rf).mono ?_
            rintro e wc1 ⟨rfl, hr, hg⟩
            rw [← S1.out.1]
            rw [← S1.out.2.1, ← S1.out.2.2] at hr
            have HRwc1 : Hid (RfB w wc1 qr (.slice av nv cv) b z1 c1) := HRwd0.out.read hr
            have HXwc1 : Hid (RoundX w wc1 q0 qr qq q8 ⟨n1, n2, n3, n4, []⟩ (.slice au mu cu) ps ⟨V0, PB, DB, ts, M0, 0, 0, 0, 0, 0, 0⟩ (.slice an mn cn)) := HXwd0.out.read hg
            clear hr hg
            have hcl := HXwc1.out.box.box.c5
            have hfz := HXwc1.out.box.free 5
            simp only [] at hcl
            have HXwd1 : Hid (RoundX w (wc1.setCell ⟨q8, 5, none⟩ (.int .i64 M1)) q0 qr qq q8 ⟨n1, n2, n3, n4, []⟩ (.slice au mu cu) ps ⟨V0, PB, DB, ts, M0, M1, 0, 0, 0, 0, 0⟩ (.slice an mn cn)) := HXwc1.out.set 5 _ (HXwc1.out.box.set5 M1) rfl
            have HRwd1 : Hid (RfB w (wc1.setCell ⟨q8, 5, none⟩ (.int .i64 M1)) qr (.slice av nv cv) b z1 c1) := HRwc1.out.grown (grownBy_setCell wc1 ⟨q8, 5, none⟩ _) H8.out.1 H8.out.2
            go_wp2_with fail
            clear hcl hfz
            generalize wc1.setCell ⟨q8, 5, none⟩ (.int .i64 M1) = wd1 at *
            refine (Pw.fI64_any qr _ b z1 c1 _ HRwd1.out.rf).mono ?_
            rintro e wc2 ⟨rfl, hr, hg⟩
            rw [← S2.out.1]
            rw [← S2.out.2.1, ← S2.out.2.2] at hr
            have HRwc2 : Hid (RfB w wc2 qr (.slice av nv cv) b z2 c2) := HRwd1.out.read hr
            have HXwc2 : Hid (RoundX w wc2 q0 qr qq q8 ⟨n1, n2, n3, n4, []⟩ (.slice au mu cu) ps ⟨V0, PB, DB, ts, M0, M1, 0, 0, 0, 0, 0⟩ (.slice an mn cn)) := HXwd1.out.read hg
            clear hr hg
            have hcl := HXwc2.out.box.box.c6
            have hfz := HXwc2.out.box.free 6
            simp only [] at hcl
            have HXwd2 : Hid (RoundX w (wc2.setCell ⟨q8, 6, none⟩ (.int .i64 M2)) q0 qr qq q8 ⟨n1, n2, n3, n4, []⟩ (.slice au mu cu) ps ⟨V0, PB, DB, ts, M0, M1, M2, 0, 0, 0, 0⟩ (.slice an mn cn)) := HXwc2.out.set 6 _ (HXwc2.out.box.set6 M2) rfl
            have HRwd2 : Hid (RfB w (wc2.setCell ⟨q8, 6, none⟩ (.int .i64 M2)) qr (.slice av nv cv) b z2 c2) := HRwc2.out.grown (grownBy_setCell wc2 ⟨q8, 6, none⟩ _) H8.out.1 H8.out.2
            go_wp2_with fail
            clear hcl hfz
            generalize wc2.setCell ⟨q8, 6, none⟩ (.int .i64 M2) = wd2 at *
            refine (Pw.fI64_any qr _ b z2 c2 _ HRwd2.out.rf).mono ?_
            rintro e wc3 ⟨rfl, hr, hg⟩
            rw [← S3.out.1]
            rw [← S3.out.2.1, ← S3.out.2.2] at hr
            have HRwc3 : Hid (RfB w wc3 qr (.slice av nv cv) b z3 c3) := HRwd2.out.read hr
            have HXwc3 : Hid (RoundX w wc3 q0 qr qq q8 ⟨n1, n2, n3, n4, []⟩ (.slice au mu cu) ps ⟨V0, PB, DB, ts, M0, M1, M2, 0, 0, 0, 0⟩ (.slice an mn cn)) := HXwd2.out.read hg
            clear hr hg
            have hcl := HXwc3.out.box.box.c7
            have hfz := HXwc3.out.box.free 7
            simp only [] at hcl
            have HXwd3 : Hid (RoundX w (wc3.setCell ⟨q8, 7, none⟩ (.int .i64 M3)) q0 qr qq q8 ⟨n1, n2, n3, n4, []⟩ (.slice au mu cu) ps ⟨V0, PB, DB, ts, M0, M1, M2, M3, 0, 0, 0⟩ (.slice an mn cn)) := HXwc3.out.set 7 _ (HXwc3.out.box.set7 M3) rfl
            have HRwd3 : Hid (RfB w (wc3.setCell ⟨q8, 7, none⟩ (.int .i64 M3)) qr (.slice av nv cv) b z3 c3) := HRwc3.out.grown (grownBy_setCell wc3 ⟨q8, 7, none⟩ _) H8.out.1 H8.out.2
            go_wp2_with fail
            clear hcl hfz
            generalize wc3.setCell ⟨q8, 7, none⟩ (.int .i64 M3) = wd3 at *
            refine (Pw.fI64_any qr _ b z3 c3 _ HRwd3.out.rf).mono ?_
            rintro e wc4 ⟨rfl, hr, hg⟩
            rw [← S4.out.1]
            rw [← S4.out.2.1, ← S4.out.2.2] at hr
            have HRwc4 : Hid (RfB w wc4 qr (.slice av nv cv) b z4 c4) := HRwd3.out.read hr
            have HXwc4 : Hid (RoundX w wc4 q0 qr qq q8 ⟨n1, n2, n3, n4, []⟩ (.slice au mu cu) ps ⟨V0, PB, DB, ts, M0, M1, M2, M3, 0, 0, 0⟩ (.slice an mn cn)) := HXwd3.out.read hg
            clear hr hg
            have hcl := HXwc4.out.box.box.c8
            have hfz := HXwc4.out.box.free 8
            simp only [] at hcl
            have HXwd4 : Hid (RoundX w (wc4.setCell ⟨q8, 8, none⟩ (.int .i64 M4)) q0 qr qq q8 ⟨n1, n2, n3, n4, []⟩ (.slice au mu cu) ps ⟨V0, PB, DB, ts, M0, M1, M2, M3, M4, 0, 0⟩ (.slice an mn cn)) := HXwc4.out.set 8 _ (HXwc4.out.box.set8 M4) rfl
            have HRwd4 : Hid (RfB w (wc4.setCell ⟨q8, 8, none⟩ (.int .i64 M4)) qr (.slice av nv cv) b z4 c4) := HRwc4.out.grown (grownBy_setCell wc4 ⟨q8, 8, none⟩ _) H8.out.1 H8.out.2
            go_wp2_with fail
            clear hcl hfz
            generalize wc4.setCell ⟨q8, 8, none⟩ (.int .i64 M4) = wd4 at *
            refine (Pw.fI64_any qr _ b z4 c4 _ HRwd4.out.rf).mono ?_
            rintro e wc5 ⟨rfl, hr, hg⟩
            rw [← S5.out.1]
            rw [← S5.out.2.1, ← S5.out.2.2] at hr
            have HRwc5 : Hid (RfB w wc5 qr (.slice av nv cv) b z5 c5) := HRwd4.out.read hr
            have HXwc5 : Hid (RoundX w wc5 q0 qr qq q8 ⟨n1, n2, n3, n4, []⟩ (.slice au mu cu) ps ⟨V0, PB, DB, ts, M0, M1, M2, M3, M4, 0, 0⟩ (.slice an mn cn)) := HXwd4.out.read hg
            clear hr hg
            have hcl := HXwc5.out.box.box.c9
            have hfz := HXwc5.out.box.free 9
            simp only [] at hcl
            have HXwd5 : Hid (RoundX w (wc5.setCell ⟨q8, 9, none⟩ (.int .i64 M5)) q0 qr qq q8 ⟨n1, n2, n3, n4, []⟩ (.slice au mu cu) ps ⟨V0, PB, DB, ts, M0, M1, M2, M3, M4, M5, 0⟩ (.slice an mn cn)) := HXwc5.out.set 9 _ (HXwc5.out.box.set9 M5) rfl
            have HRwd5 : Hid (RfB w (wc5.setCell ⟨q8, 9, none⟩ (.int .i64 M5)) qr (.slice av nv cv) b z5 c5) := HRwc5.out.grown (grownBy_setCell wc5 ⟨q8, 9, none⟩ _) H8.out.1 H8.out.2
            go_wp2_with fail
            clear hcl hfz
            generalize wc5.setCell ⟨q8, 9, none⟩ (.int .i64 M5) = wd5 at *
            refine (Pw.fI64_any qr _ b z5 c5 _ HRwd5.out.rf).mono ?_
            rintro e wc6 ⟨rfl, hr, hg⟩
            rw [← S6.out.1]
            rw [← S6.out.2.1, ← S6.out.2.2] at hr
            have HRwc6 : Hid (RfB w wc6 qr (.slice av nv cv) b z6 c6) := HRwd5.out.read hr
            have HXwc6 : Hid (RoundX w wc6 q0 qr qq q8 ⟨n1, n2, n3, n4, []⟩ (.slice au mu cu) ps ⟨V0, PB, DB, ts, M0, M1, M2, M3, M4, M5, 0⟩ (.slice an mn cn)) := HXwd5.out.read hg
            clear hr hg
            have hcl := HXwc6.out.box.box.c10
            have hfz := HXwc6.out.box.free 10
            simp only [] at hcl
            have HXwd6 : Hid (RoundX w (wc6.setCell ⟨q8, 10, none⟩ (.int .i64 M6)) q0 qr qq q8 ⟨n1, n2, n3, n4, []⟩ (.slice au mu cu) ps ⟨V0, PB, DB, ts, M0, M1, M2, M3, M4, M5, M6⟩ (.slice an mn cn)) := HXwc6.out.set 10 _ (HXwc6.out.box.set10 M6) rfl
            have HRwd6 : Hid (RfB w (wc6.setCell ⟨q8, 10, none⟩ (.int .i64 M6)) qr (.slice av nv cv) b z6 c6) := HRwc6.out.grown (grownBy_setCell wc6 ⟨q8, 10, none⟩ _) H8.out.1 H8.out.2
            go_upto_region 22 with fail
            clear hcl hfz
            generalize wc6.setCell ⟨q8, 10, none⟩ (.int .i64 M6) = wd6 at *
            have hrX := HXwd6.out.st.rep.box.c4
            obtain ⟨x0, x1, x2, x3, x4, x5, x6, x7, x8, x9, x10⟩ := HXwd6.out.box.box
            simp only [] at x0 x1 x2 x3 x4 x5 x6 x7 x8 x9 x10
            go_wp2_with (at_builtin; refine append_x1 rfl _ _ rfl (qq + 1) (.slice au mu cu) ps (⟨V0, PB, DB, ts, M0, M1, M2, M3, M4, M5, M6⟩, .slice an mn cn) wd6 _ rfl rfl rfl HXwd6.out.st.own (HXwd6.out.nm.mono (by have := HXwd6.out.h8; omega)) HXwd6.out.st.rep.lt HPL.out ?_)
            intro v2 w2 hX2 hg2
            obtain ⟨a2, m2, cc2, rfl⟩ : ∃ a m c, v2 = .slice a m c := by
              rcases hX2.own.2 with ⟨rfl, _⟩ | ⟨g, cap, cur, rfl, _⟩
              · exact ⟨_, _, _, rfl⟩
              · exact ⟨_, _, _, rfl⟩
            have hpush := HXwd6.out.push (World.grownBy_alloc _ _ none) hg2 hX2
            obtain ⟨kb, hkb, hBk⟩ := HXwd6.out.st.own.where_ HXwd6.out.st.rep.lt (World.grownBy_alloc _ _ none) hg2
            have hl1 := HXwd6.out.st.rq
            have hl2 := HXwd6.out.st.below.size
            have hl3 := HXwd6.out.st.h0
            have hl4 := HXwd6.out.st.r0
            have HRE : Hid (RfB w (w2.setCell ⟨qq, 4, none⟩ (.slice a2 m2 cc2)) qr (.slice av nv cv) b z6 c6) := (HRwd6.out.grown hkb (by omega) (by omega)).grown (grownBy_setCell w2 ⟨qq, 4, none⟩ _) (by show qr ≠ qq; omega) (by show w.heap.size ≤ qq; omega)
            have HGE : Hid (GetR w (w2.setCell ⟨qq, 4, none⟩ (.slice a2 m2 cc2)) q0 qr qq ⟨n1, n2, n3, n4, []⟩ (.slice a2 m2 cc2) (ps ++ [(⟨V0, PB, DB, ts, M0, M1, M2, M3, M4, M5, M6⟩, .slice an mn cn)])) := hpush.1
            have HRP : Hid (RepV w2 qq ⟨n1, n2, n3, n4, []⟩ (.slice au mu cu)) := hpush.2
            clear hX2 hg2 hpush hkb hBk hl1 hl2 hl3 hl4 hrX x0 x1 x2 x3 x4 x5 x6 x7 x8 x9 x10
            have hc4 := HRP.out.box.c4
            have hf4 := HRP.out.free 4
            go_wp2
            clear hc4 hf4
            generalize w2.setCell ⟨qq, 4, none⟩ (.slice a2 m2 cc2) = w3' at *
            go_roundw
            case rel => exact ⟨k + 1, z6, c6, .slice a2 m2 cc2, ps ++ [(⟨V0, PB, DB, ts, M0, M1, M2, M3, M4, M5, M6⟩, .slice an mn cn)], by omega, by go_num, HRD2.out.1, HGE.out, HRE.out, HRD2.out.2⟩
            case measure => simp [intOf]; omega
          · have hjd' : ¬ (j : Int) < (d : Int) := by omega
            go_wp2_with fail
            clear hb2c
            refine (Pw.fI64_any qr _ b ys2 bad2 _ HRH.out.rf).mono ?_
            rintro e wc0 ⟨rfl, hr, hg⟩
            rw [← S0.out.1]
            rw [← S0.out.2.1, ← S0.out.2.2] at hr
            have HRwc0 : Hid (RfB w wc0 qr (.slice av nv cv) b z0 c0) := HRH.out.read hr
            have HXwc0 : Hid (RoundX w wc0 q0 qr qq q8 ⟨n1, n2, n3, n4, []⟩ (.slice au mu cu) ps ⟨V0, PB, DB, ts, 0, 0, 0, 0, 0, 0, 0⟩ (.slice an mn cn)) := HXH.out.read hg
            clear hr hg
            have hcl := HXwc0.out.box.box.c4
            have hfz := HXwc0.out.box.free 4
            simp only [] at hcl
            have HXwd0 : Hid (RoundX w (wc0.setCell ⟨q8, 4, none⟩ (.int .i64 M0)) q0 qr qq q8 ⟨n1, n2, n3, n4, []⟩ (.slice au mu cu) ps ⟨V0, PB, DB, ts, M0, 0, 0, 0, 0, 0, 0⟩ (.slice an mn cn)) := HXwc0.out.set 4 _ (HXwc0.out.box.set4 M0) rfl
            have HRwd0 : Hid (RfB w (wc0.setCell ⟨q8, 4, none⟩ (.int .i64 M0)) qr (.slice av nv cv) b z0 c0) := HRwc0.out.grown (grownBy_setCell wc0 ⟨q8, 4, none⟩ _) H8.out.1 H8.out.2
            go_wp2_with fail
            clear hcl hfz
            generalize wc0.setCell ⟨q8, 4, none⟩ (.int .i64 M0) = wd0 at *
            refine (Pw.fI64_any qr _ b z0 c0 _ HRwd0.out.rf).mono ?_
            rintro e wc1 ⟨rfl, hr, hg⟩
            rw [← S1.out.1]
            rw [← S1.out.2.1, ← S1.out.2.2] at hr
            have HRwc1 : Hid (RfB w wc1 qr (.slice av nv cv) b z1 c1) := HRwd0.out.read hr
            have HXwc1 : Hid (RoundX w wc1 q0 qr qq q8 ⟨n1, n2, n3, n4, []⟩ (.slice au mu cu) ps ⟨V0, PB, DB, ts, M0, 0, 0, 0, 0, 0, 0⟩ (.slice an mn cn)) := HXwd0.out.read hg
            clear hr hg
            have hcl := HXwc1.out.box.box.c5
            have hfz := HXwc1.out.box.free 5
            simp only [] at hcl
            have HXwd1 : Hid (RoundX w (wc1.setCell ⟨q8, 5, none⟩ (.int .i64 M1)) q0 qr qq q8 ⟨n1, n2, n3, n4, []⟩ (.slice au mu cu) ps ⟨V0, PB, DB, ts, M0, M1, 0, 0, 0, 0, 0⟩ (.slice an mn cn)) := HXwc1.out.set 5 _ (HXwc1.out.box.set5 M1) rfl
            have HRwd1 : Hid (RfB w (wc1.setCell ⟨q8, 5, none⟩ (.int .i64 M1)) qr (.slice av nv cv) b z1 c1) := HRwc1.out.grown (grownBy_setCell wc1 ⟨q8, 5, none⟩ _) H8.out.1 H8.out.2
            go_wp2_with fail
            clear hcl hfz
            generalize wc1.setCell ⟨q8, 5, none⟩ (.int .i64 M1) = wd1 at *
            refine (Pw.fI64_any qr _ b z1 c1 _ HRwd1.out.rf).mono ?_
            rintro e wc2 ⟨rfl, hr, hg⟩
            rw [← S2.out.1]
            rw [← S2.out.2.1, ← S2.out.2.2] at hr
            have HRwc2 : Hid (RfB w wc2 qr (.slice av nv cv) b z2 c2) := HRwd1.out.read hr
            have HXwc2 : Hid (RoundX w wc2 q0 qr qq q8 ⟨n1, n2, n3, n4, []⟩ (.slice au mu cu) ps ⟨V0, PB, DB, ts, M0, M1, 0, 0, 0, 0, 0⟩ (.slice an mn cn)) := HXwd1.out.read hg
            clear hr hg
            have hcl := HXwc2.out.box.box.c6
            have hfz := HXwc2.out.box.free 6
            simp only [] at hcl
            have HXwd2 : Hid (RoundX w (wc2.setCell ⟨q8, 6, none⟩ (.int .i64 M2)) q0 qr qq q8 ⟨n1, n2, n3, n4, []⟩ (.slice au mu cu) ps ⟨V0, PB, DB, ts, M0, M1, M2, 0, 0, 0, 0⟩ (.slice an mn cn)) := HXwc2.out.set 6 _ (HXwc2.out.box.set6 M2) rfl
            have HRwd2 : Hid (RfB w (wc2.setCell ⟨q8, 6, none⟩ (.int .i64 M2)) qr (.slice av nv cv) b z2 c2) := HRwc2.out.grown (grownBy_setCell wc2 ⟨q8, 6, none⟩ _) H8.out.1 H8.out.2
            go_wp2_with fail
            clear hcl hfz
            generalize wc2.setCell ⟨q8, 6, none⟩ (.int .i64 M2) = wd2 at *
            refine (Pw.fI64_any qr _ b z2 c2 _ HRwd2.out.rf).mono ?_
            rintro e wc3 ⟨rfl, hr, hg⟩
            rw [← S3.out.1]
            rw [← S3.out.2.1, ← S3.out.2.2] at hr
            have HRwc3 : Hid (RfB w wc3 qr (.slice av nv cv) b z3 c3) := HRwd2.out.read hr
            have HXwc3 : Hid (RoundX w wc3 q0 qr qq q8 ⟨n1, n2, n3, n4, []⟩ (.slice au mu cu) ps ⟨V0, PB, DB, ts, M0, M1, M2, 0, 0, 0, 0⟩ (.slice an mn cn)) := HXwd2.out.read hg
            clear hr hg
            have hcl := HXwc3.out.box.box.c7
            have hfz := HXwc3.out.box.free 7
            simp only [] at hcl
            have HXwd3 : Hid (RoundX w (wc3.setCell ⟨q8, 7, none⟩ (.int .i64 M3)) q0 qr qq q8 ⟨n1, n2, n3, n4, []⟩ (.slice au mu cu) ps ⟨V0, PB, DB, ts, M0, M1, M2, M3, 0, 0, 0⟩ (.slice an mn cn)) := HXwc3.out.set 7 _ (HXwc3.out.box.set7 M3) rfl
            have HRwd3 : Hid (RfB w (wc3.setCell ⟨q8, 7, none⟩ (.int .i64 M3)) qr (.slice av nv cv) b z3 c3) := HRwc3.out.grown (grownBy_setCell wc3 ⟨q8, 7, none⟩ _) H8.out.1 H8.out.2
            go_wp2_with fail
            clear hcl hfz
            generalize wc3.setCell ⟨q8, 7, none⟩ (.int .i64 M3) = wd3 at *
            refine (Pw.fI64_any qr _ b z3 c3 _ HRwd3.out.rf).mono ?_
            rintro e wc4 ⟨rfl, hr, hg⟩
            rw [← S4.out.1]
            rw [← S4.out.2.1, ← S4.out.2.2] at hr
            have HRwc4 : Hid (RfB w wc4 qr (.slice av nv cv) b z4 c4) := HRwd3.out.read hr
            have HXwc4 : Hid (RoundX w wc4 q0 qr qq q8 ⟨n1, n2, n3, n4, []⟩ (.slice au mu cu) ps ⟨V0, PB, DB, ts, M0, M1, M2, M3, 0, 0, 0⟩ (.slice an mn cn)) := HXwd3.out.read hg
            clear hr hg
            have hcl := HXwc4.out.box.box.c8
            have hfz := HXwc4.out.box.free 8
            simp only [] at hcl
            have HXwd4 : Hid (RoundX w (wc4.setCell ⟨q8, 8, none⟩ (.int .i64 M4)) q0 qr qq q8 ⟨n1, n2, n3, n4, []⟩ (.slice au mu cu) ps ⟨V0, PB, DB, ts, M0, M1, M2, M3, M4, 0, 0⟩ (.slice an mn cn)) := HXwc4.out.set 8 _ (HXwc4.out.box.set8 M4) rfl
            have HRwd4 : Hid (RfB w (wc4.setCell ⟨q8, 8, none⟩ (.int .i64 M4)) qr (.slice av nv cv) b z4 c4) := HRwc4.out.grown (grownBy_setCell wc4 ⟨q8, 8, none⟩ _) H8.out.1 H8.out.2
            go_wp2_with fail
            clear hcl hfz
            generalize wc4.setCell ⟨q8, 8, none⟩ (.int .i64 M4) = wd4 at *
            refine (Pw.fI64_any qr _ b z4 c4 _ HRwd4.out.rf).mono ?_
            rintro e wc5 ⟨rfl, hr, hg⟩
            rw [← S5.out.1]
            rw [← S5.out.2.1, ← S5.out.2.2] at hr
            have HRwc5 : Hid (RfB w wc5 qr (.slice av nv cv) b z5 c5) := HRwd4.out.read hr
            have HXwc5 : Hid (RoundX w wc5 q0 qr qq q8 ⟨n1, n2, n3, n4, []⟩ (.slice au mu cu) ps ⟨V0, PB, DB, ts, M0, M1, M2, M3, M4, 0, 0⟩ (.slice an mn cn)) := HXwd4.out.read hg
            clear hr hg
            have hcl := HXwc5.out.box.box.c9
            have hfz := HXwc5.out.box.free 9
            simp only [] at hcl
            have HXwd5 : Hid (RoundX w (wc5.setCell ⟨q8, 9, none⟩ (.int .i64 M5)) q0 qr qq q8 ⟨n1, n2, n3, n4, []⟩ (.slice au mu cu) ps ⟨V0, PB, DB, ts, M0, M1, M2, M3, M4, M5, 0⟩ (.slice an mn cn)) := HXwc5.out.set 9 _ (HXwc5.out.box.set9 M5) rfl
            have HRwd5 : Hid (RfB w (wc5.setCell ⟨q8, 9, none⟩ (.int .i64 M5)) qr (.slice av nv cv) b z5 c5) := HRwc5.out.grown (grownBy_setCell wc5 ⟨q8, 9, none⟩ _) H8.out.1 H8.out.2
            go_wp2_with fail
            clear hcl hfz
            generalize wc5.setCell ⟨q8, 9, none⟩ (.int .i64 M5) = wd5 at *
            refine (Pw.fI64_any qr _ b z5 c5 _ HRwd5.out.rf).mono ?_
            rintro e wc6 ⟨rfl, hr, hg⟩
            rw [← S6.out.1]
            rw [← S6.out.2.1, ← S6.out.2.2] at hr
            have HRwc6 : Hid (RfB w wc6 qr (.slice av nv cv) b z6 c6) := HRwd5.out.read hr
            have HXwc6 : Hid (RoundX w wc6 q0 qr qq q8 ⟨n1, n2, n3, n4, []⟩ (.slice au mu cu) ps ⟨V0, PB, DB, ts, M0, M1, M2, M3, M4, M5, 0⟩ (.slice an mn cn)) := HXwd5.out.read hg
            clear hr hg
            have hcl := HXwc6.out.box.box.c10
            have hfz := HXwc6.out.box.free 10
            simp only [] at hcl
            have HXwd6 : Hid (RoundX w (wc6.setCell ⟨q8, 10, none⟩ (.int .i64 M6)) q0 qr qq q8 ⟨n1, n2, n3, n4, []⟩ (.slice au mu cu) ps ⟨V0, PB, DB, ts, M0, M1, M2, M3, M4, M5, M6⟩ (.slice an mn cn)) := HXwc6.out.set 10 _ (HXwc6.out.box.set10 M6) rfl
            have HRwd6 : Hid (RfB w (wc6.setCell ⟨q8, 10, none⟩ (.int .i64 M6)) qr (.slice av nv cv) b z6 c6) := HRwc6.out.grown (grownBy_setCell wc6 ⟨q8, 10, none⟩ _) H8.out.1 H8.out.2
            go_upto_region 22 with fail
            clear hcl hfz
            generalize wc6.setCell ⟨q8, 10, none⟩ (.int .i64 M6) = wd6 at *
            have hrX := HXwd6.out.st.rep.box.c4
            obtain ⟨x0, x1, x2, x3, x4, x5, x6, x7, x8, x9, x10⟩ := HXwd6.out.box.box
            simp only [] at x0 x1 x2 x3 x4 x5 x6 x7 x8 x9 x10
            go_wp2_with (at_builtin; refine append_x1 rfl _ _ rfl (qq + 1) (.slice au mu cu) ps (⟨V0, PB, DB, ts, M0, M1, M2, M3, M4, M5, M6⟩, .slice an mn cn) wd6 _ rfl rfl rfl HXwd6.out.st.own (HXwd6.out.nm.mono (by have := HXwd6.out.h8; omega)) HXwd6.out.st.rep.lt HPL.out ?_)
            intro v2 w2 hX2 hg2
            obtain ⟨a2, m2, cc2, rfl⟩ : ∃ a m c, v2 = .slice a m c := by
              rcases hX2.own.2 with ⟨rfl, _⟩ | ⟨g, cap, cur, rfl, _⟩
              · exact ⟨_, _, _, rfl⟩
              · exact ⟨_, _, _, rfl⟩
            have hpush := HXwd6.out.push (World.grownBy_alloc _ _ none) hg2 hX2
            obtain ⟨kb, hkb, hBk⟩ := HXwd6.out.st.own.where_ HXwd6.out.st.rep.lt (World.grownBy_alloc _ _ none) hg2
            have hl1 := HXwd6.out.st.rq
            have hl2 := HXwd6.out.st.below.size
            have hl3 := HXwd6.out.st.h0
            have hl4 := HXwd6.out.st.r0
            have HRE : Hid (RfB w (w2.setCell ⟨qq, 4, none⟩ (.slice a2 m2 cc2)) qr (.slice av nv cv) b z6 c6) := (HRwd6.out.grown hkb (by omega) (by omega)).grown (grownBy_setCell w2 ⟨qq, 4, none⟩ _) (by show qr ≠ qq; omega) (by show w.heap.size ≤ qq; omega)
            have HGE : Hid (GetR w (w2.setCell ⟨qq, 4, none⟩ (.slice a2 m2 cc2)) q0 qr qq ⟨n1, n2, n3, n4, []⟩ (.slice a2 m2 cc2) (ps ++ [(⟨V0, PB, DB, ts, M0, M1, M2, M3, M4, M5, M6⟩, .slice an mn cn)])) := hpush.1
            have HRP : Hid (RepV w2 qq ⟨n1, n2, n3, n4, []⟩ (.slice au mu cu)) := hpush.2
            clear hX2 hg2 hpush hkb hBk hl1 hl2 hl3 hl4 hrX x0 x1 x2 x3 x4 x5 x6 x7 x8 x9 x10
            have hc4 := HRP.out.box.c4
            have hf4 := HRP.out.free 4
            go_wp2
            clear hc4 hf4
            generalize w2.setCell ⟨qq, 4, none⟩ (.slice a2 m2 cc2) = w3' at *
            go_roundw
            case rel => exact ⟨k + 1, z6, c6, .slice a2 m2 cc2, ps ++ [(⟨V0, PB, DB, ts, M0, M1, M2, M3, M4, M5, M6⟩, .slice an mn cn)], by omega, by go_num, HRD2.out.1, HGE.out, HRE.out, HRD2.out.2⟩
            case measure => simp [intOf]; omega
    · have hx : Rq.rdXs c y5 b5 = (ps.map (·.1), ys, bad) := by
        have h := HRD.out.2
        by_cases hkc : k < c
        · have hbt : bad = true := by
            cases bad with
            | true => rfl
            | false => exact absurd ⟨hkc, rfl⟩ hgo
          subst hbt
          rw [Rq.rdXs_bad] at h
          rw [h]
          simp
        · have e : c - k = 0 := by omega
          rw [e, Rq.rdXs] at h
          rw [h]
          simp
      obtain ⟨xs, hxs⟩ : ∃ xs, xs = ps.map (·.1) := ⟨_, rfl⟩
      rw [← hxs] at hx
      have HXS : Hid (xs = ps.map (·.1)) := hxs
      have HX : Hid (Rq.rdXs c y5 b5 = (xs, ys, bad)) := hx
      clear hx hxs
      obtain ⟨E, hE⟩ : ∃ E : Bool, E = (!bad && ys.isEmpty) := ⟨_, rfl⟩
      have HE : Hid (E = (!bad && ys.isEmpty)) := hE
      clear hE
      have HNO : Hid (E = false → ∀ r, ¬ Rq.Is b r) := by
        have h : E = false → ∀ r, ¬ Rq.Is b r := fun hE r hi => by
          have h := (Rq.is_read hi HHD.out).2.2.2.2
          rw [HX.out] at h
          simp only [Prod.mk.injEq] at h
          rw [HE.out, h.2.1, h.2.2] at hE
          cases hE
        exact h
      have HYES : Hid (E = true → Rq.Is b ⟨n1, n2, n3, n4, xs⟩) := by
        have h : E = true → Rq.Is b ⟨n1, n2, n3, n4, xs⟩ := fun hE => by
          rw [HE.out] at hE
          refine Rq.read_is HHD.out ?_
          rw [HX.out]
          cases bad with
          | true => cases hE
          | false =>
            cases ys with
            | nil => rfl
            | cons y ys => cases hE
        exact h
      have hcase : (k < c ∧ bad = true) ∨ c ≤ k := by
        by_cases hjd : k < c
        · refine Or.inl ⟨hjd, ?_⟩
          cases bad with
          | true => rfl
          | false => exact absurd ⟨hjd, rfl⟩ hgo
        · exact Or.inr (by omega)
      clear hgo
      rcases hcase with ⟨hkc, hbt⟩ | hkc
      · have hkc' : (k : Int) < (c : Int) := by omega
        rw [hbt] at hb2c
        go_wp2_with fail
        clear hb2c
        refine (Pw.fEnd_any qr _ b ys bad _ HRS.out.rf).mono ?_
        rintro e wz ⟨rfl, nd, hwz⟩
        rw [← HE.out]
        have HGZ : Hid (GetR w wz q0 qr qq ⟨n1, n2, n3, n4, []⟩ (.slice au mu cu) ps) := by rw [hwz]; exact HGS.out.later (below_drewN (Below.refl _ wr) nd)
        clear hwz
        cases E with
        | false =>
          have hc0 := HGZ.out.ans.box.c0
          have hc1 := HGZ.out.ans.box.c1
          have hc2 := HGZ.out.ans.box.c2
          have hc3 := HGZ.out.ans.box.c3
          have hc4 := HGZ.out.ans.box.c4
          have hf0 := HGZ.out.ans.free 0
          have hf1 := HGZ.out.ans.free 1
          have hf2 := HGZ.out.ans.free 2
          have hf3 := HGZ.out.ans.free 3
          have hf4 := HGZ.out.ans.free 4
          simp only [Rq.zero] at hc0 hc1 hc2 hc3 hc4
          go_wp2
          clear hc0 hc1 hc2 hc3 hc4 hf0 hf1 hf2 hf3 hf4
          have htold := HGZ.out.told Rq.zero (.slice none 0 0)
          simp only [Rq.zero] at htold
          generalize ((((wz.setCell ⟨q0, 0, none⟩ (.int .i64 0)).setCell ⟨q0, 1, none⟩ (.int .i64 0)).setCell ⟨q0, 2, none⟩ (.int .i64 0)).setCell ⟨q0, 3, none⟩ (.int .i64 0)).setCell ⟨q0, 4, none⟩ (.slice none 0 0) = wy at *
          obtain ⟨hzb, ⟨hz0, hz1, hz2, hz3, hz4⟩, _⟩ := htold
          simp only [] at hz0 hz1 hz2 hz3 hz4
          (try simp only [Exit.inBlock, Exit.then])
          refine bodyPost_ret (v := .tuple #[.agg #[.int .i64 0, .int .i64 0, .int .i64 0, .int .i64 0, .slice none 0 0], .bool false]) ?_ rfl ⟨hzb, Or.inr ⟨rfl, HNO.out (by trivial)⟩⟩
          rw [results_cell_tmp rfl]
          go_simp
        | true =>
          have hc0 := HGZ.out.ans.box.c0
          have hc1 := HGZ.out.ans.box.c1
          have hc2 := HGZ.out.ans.box.c2
          have hc3 := HGZ.out.ans.box.c3
          have hc4 := HGZ.out.ans.box.c4
          have hf0 := HGZ.out.ans.free 0
          have hf1 := HGZ.out.ans.free 1
          have hf2 := HGZ.out.ans.free 2
          have hf3 := HGZ.out.ans.free 3
          have hf4 := HGZ.out.ans.free 4
          have hr0 := HGZ.out.rep.box.c0
          have hr1 := HGZ.out.rep.box.c1
          have hr2 := HGZ.out.rep.box.c2
          have hr3 := HGZ.out.rep.box.c3
          have hr4 := HGZ.out.rep.box.c4
          simp only [Rq.zero] at hc0 hc1 hc2 hc3 hc4
          simp only [] at hr0 hr1 hr2 hr3 hr4
          go_wp2
          clear hc0 hc1 hc2 hc3 hc4 hf0 hf1 hf2 hf3 hf4 hr0 hr1 hr2 hr3 hr4
          have htold := HGZ.out.told ⟨n1, n2, n3, n4, []⟩ (.slice au mu cu)
          simp only [] at htold
          generalize ((((wz.setCell ⟨q0, 0, none⟩ (.int .i64 n1)).setCell ⟨q0, 1, none⟩ (.int .i64 n2)).setCell ⟨q0, 2, none⟩ (.int .i64 n3)).setCell ⟨q0, 3, none⟩ (.int .i64 n4)).setCell ⟨q0, 4, none⟩ (.slice au mu cu) = wy at *
          obtain ⟨hzb, ⟨hz0, hz1, hz2, hz3, hz4⟩, hol⟩ := htold
          simp only [] at hz0 hz1 hz2 hz3 hz4
          rw [← HXS.out] at hol
          (try simp only [Exit.inBlock, Exit.then])
          refine bodyPost_ret (v := .tuple #[.agg #[.int .i64 n1, .int .i64 n2, .int .i64 n3, .int .i64 n4, .slice au mu cu], .bool true]) ?_ rfl ⟨hzb, Or.inl ⟨⟨n1, n2, n3, n4, xs⟩, .slice au mu cu, rfl, hol, HYES.out (by trivial)⟩⟩
          rw [results_cell_tmp rfl]
          go_simp
      · have hkc' : ¬ (k : Int) < (c : Int) := by omega
        go_wp2_with fail
        clear hb2c
        refine (Pw.fEnd_any qr _ b ys bad _ HRS.out.rf).mono ?_
        rintro e wz ⟨rfl, nd, hwz⟩
        rw [← HE.out]
        have HGZ : Hid (GetR w wz q0 qr qq ⟨n1, n2, n3, n4, []⟩ (.slice au mu cu) ps) := by rw [hwz]; exact HGS.out.later (below_drewN (Below.refl _ wr) nd)
        clear hwz
        cases E with
        | false =>
          have hc0 := HGZ.out.ans.box.c0
          have hc1 := HGZ.out.ans.box.c1
          have hc2 := HGZ.out.ans.box.c2
          have hc3 := HGZ.out.ans.box.c3
          have hc4 := HGZ.out.ans.box.c4
          have hf0 := HGZ.out.ans.free 0
          have hf1 := HGZ.out.ans.free 1
          have hf2 := HGZ.out.ans.free 2
          have hf3 := HGZ.out.ans.free 3
          have hf4 := HGZ.out.ans.free 4
          simp only [Rq.zero] at hc0 hc1 hc2 hc3 hc4
          go_wp2
          clear hc0 hc1 hc2 hc3 hc4 hf0 hf1 hf2 hf3 hf4
          have htold := HGZ.out.told Rq.zero (.slice none 0 0)
          simp only [Rq.zero] at htold
          generalize ((((wz.setCell ⟨q0, 0, none⟩ (.int .i64 0)).setCell ⟨q0, 1, none⟩ (.int .i64 0)).setCell ⟨q0, 2, none⟩ (.int .i64 0)).setCell ⟨q0, 3, none⟩ (.int .i64 0)).setCell ⟨q0, 4, none⟩ (.slice none 0 0) = wy at *
          obtain ⟨hzb, ⟨hz0, hz1, hz2, hz3, hz4⟩, _⟩ := htold
          simp only [] at hz0 hz1 hz2 hz3 hz4
          (try simp only [Exit.inBlock, Exit.then])
          refine bodyPost_ret (v := .tuple #[.agg #[.int .i64 0, .int .i64 0, .int .i64 0, .int .i64 0, .slice none 0 0], .bool false]) ?_ rfl ⟨hzb, Or.inr ⟨rfl, HNO.out (by trivial)⟩⟩
          rw [results_cell_tmp rfl]
          go_simp
        | true =>
          have hc0 := HGZ.out.ans.box.c0
          have hc1 := HGZ.out.ans.box.c1
          have hc2 := HGZ.out.ans.box.c2
          have hc3 := HGZ.out.ans.box.c3
          have hc4 := HGZ.out.ans.box.c4
          have hf0 := HGZ.out.ans.free 0
          have hf1 := HGZ.out.ans.free 1
          have hf2 := HGZ.out.ans.free 2
          have hf3 := HGZ.out.ans.free 3
          have hf4 := HGZ.out.ans.free 4
          have hr0 := HGZ.out.rep.box.c0
          have hr1 := HGZ.out.rep.box.c1
          have hr2 := HGZ.out.rep.box.c2
          have hr3 := HGZ.out.rep.box.c3
          have hr4 := HGZ.out.rep.box.c4
          simp only [Rq.zero] at hc0 hc1 hc2 hc3 hc4
          simp only [] at hr0 hr1 hr2 hr3 hr4
          go_wp2
          clear hc0 hc1 hc2 hc3 hc4 hf0 hf1 hf2 hf3 hf4 hr0 hr1 hr2 hr3 hr4
          have htold := HGZ.out.told ⟨n1, n2, n3, n4, []⟩ (.slice au mu cu)
          simp only [] at htold
          generalize ((((wz.setCell ⟨q0, 0, none⟩ (.int .i64 n1)).setCell ⟨q0, 1, none⟩ (.int .i64 n2)).setCell ⟨q0, 2, none⟩ (.int .i64 n3)).setCell ⟨q0, 3, none⟩ (.int .i64 n4)).setCell ⟨q0, 4, none⟩ (.slice au mu cu) = wy at *
          obtain ⟨hzb, ⟨hz0, hz1, hz2, hz3, hz4⟩, hol⟩ := htold
          simp only [] at hz0 hz1 hz2 hz3 hz4
          rw [← HXS.out] at hol
          (try simp only [Exit.inBlock, Exit.then])
          refine bodyPost_ret (v := .tuple #[.agg #[.int .i64 n1, .int .i64 n2, .int .i64 n3, .int .i64 n4, .slice au mu cu], .bool true]) ?_ rfl ⟨hzb, Or.inl ⟨⟨n1, n2, n3, n4, xs⟩, .slice au mu cu, rfl, hol, HYES.out (by trivial)⟩⟩
          rw [results_cell_tmp rfl]
          go_simp
end Go.Proofs.Ytebmcjhhoionbaa
