/- What StatKnown answers. -/
import Derived.Test.YtlgpjgncimcijaaLNames10
import Derived.Test.YtlgpjgncimcijaaSpecB10
namespace Go.Proofs.Ytlgpjgncimcijaa.Kq
theorem lt_ba : lt ⟨#[98]⟩ ⟨#[97]⟩ = false := by simp [lt, ByteArray.toList_eq, Op.bytesLess]
theorem lt_ab : lt ⟨#[97]⟩ ⟨#[98]⟩ = true := by simp [lt, ByteArray.toList_eq, Op.bytesLess]
theorem ab_ne : (⟨#[97]⟩ : ByteArray) ≠ ⟨#[98]⟩ := fun e => by have := lt_ab; rw [e, lt_irrefl] at this; cases this
theorem ax_ne : (⟨#[97]⟩ : ByteArray) ≠ ⟨#[120]⟩ := by simp
theorem bx_ne : (⟨#[98]⟩ : ByteArray) ≠ ⟨#[120]⟩ := by simp
/-- What StatKnown does to a node. -/
structure Known (n1 n2 n3 n4 n5 : Kn) : Prop where
  h1 : has n1.names ⟨#[98]⟩ = false
  h2 : has n2.names ⟨#[97]⟩ = false
  h3 : has n3.names ⟨#[98]⟩ = true
  h4 : has n3.names ⟨#[120]⟩ = false
  l1 : n1.names.length = 0
  l2 : n2.names.length = 1
  l3 : n3.names.length = 2
  names : n5.names = [⟨#[97]⟩]
  ver : n5.ver = 1
  changed : n5.changed = 8
  made : n5.made = 5
  len : n5.len = 3
  kids : n5.kids = 3
  cnt : n5.cnt = 1
  next : n5.next = 2
  owner : n5.owner = 9
  data : n5.data = ⟨#[97, 98, 99]⟩
theorem known10 : Known (new 5 9 ⟨#[97, 98]⟩) (add (new 5 9 ⟨#[97, 98]⟩) ⟨#[98]⟩) (add (add (new 5 9 ⟨#[97, 98]⟩) ⟨#[98]⟩) ⟨#[97]⟩) (remove (add (add (new 5 9 ⟨#[97, 98]⟩) ⟨#[98]⟩) ⟨#[97]⟩) ⟨#[98]⟩) (write (remove (add (add (new 5 9 ⟨#[97, 98]⟩) ⟨#[98]⟩) ⟨#[97]⟩) ⟨#[98]⟩) 8 ⟨#[97, 98, 99]⟩) := by
  have h1 : has (new 5 9 ⟨#[97, 98]⟩).names ⟨#[98]⟩ = false := rfl
  have e2 : add (new 5 9 ⟨#[97, 98]⟩) ⟨#[98]⟩ = ⟨5, 5, 0, 1, 9, 2, 1, ⟨#[97, 98]⟩, 1, [⟨#[98]⟩]⟩ := by rw [add_yes h1]; rfl
  rw [e2]
  have h2 : has [⟨#[98]⟩] ⟨#[97]⟩ = false := by simp [has, ab_ne.symm]
  have i2 : ins [⟨#[98]⟩] ⟨#[97]⟩ = [⟨#[97]⟩, ⟨#[98]⟩] := by simp [ins, low, high, lt_ba]
  have e3 : add ⟨5, 5, 0, 1, 9, 2, 1, ⟨#[97, 98]⟩, 1, [⟨#[98]⟩]⟩ ⟨#[97]⟩ = ⟨5, 5, 0, 2, 9, 2, 2, ⟨#[97, 98]⟩, 2, [⟨#[97]⟩, ⟨#[98]⟩]⟩ := by rw [add_yes h2]; simp only [i2]; rfl
  rw [e3]
  have h3 : has [⟨#[97]⟩, ⟨#[98]⟩] ⟨#[98]⟩ = true := by simp [has]
  have h4 : has [⟨#[97]⟩, ⟨#[98]⟩] ⟨#[120]⟩ = false := by simp [has]
  have d3 : del [⟨#[97]⟩, ⟨#[98]⟩] ⟨#[98]⟩ = [⟨#[97]⟩] := by simp [del]
  have e4 : remove ⟨5, 5, 0, 2, 9, 2, 2, ⟨#[97, 98]⟩, 2, [⟨#[97]⟩, ⟨#[98]⟩]⟩ ⟨#[98]⟩ = ⟨5, 5, 0, 3, 9, 2, 1, ⟨#[97, 98]⟩, 2, [⟨#[97]⟩]⟩ := by rw [remove_yes h3]; simp only [d3]; rfl
  rw [e4]
  exact ⟨h1, h2, h3, h4, rfl, rfl, rfl, rfl, rfl, rfl, rfl, rfl, rfl, rfl, rfl, rfl, rfl⟩
end Go.Proofs.Ytlgpjgncimcijaa.Kq
namespace Go.Proofs.Ytlgpjgncimcijaa
open Go.RowKit

set_option maxRecDepth 20000 in
set_option maxHeartbeats 8000000 in
theorem known_any10 (S : Specs10) (SB : SpecB10) (W : World) :
    Calls Try.prog 3 #[] W fun e w' => e = .returned (.bool true) ∧ Below W.heap.size W w' := by
  have HS : Hid Specs10 := S
  have HSB : Hid SpecB10 := SB
  clear S SB
  go_enter Try.func3, Try.ntmps3
  go_wp2_with fail
  refine (awake_any10 HS.out W).mono ?_
  rintro e w0 ⟨rfl, hb⟩
  have B0 : Hid (Below W.heap.size W w0) := hb
  clear hb
  go_wp2_with fail
  refine (HS.out.new 5 9 ⟨#[97, 98]⟩ w0 (by decide)).mono ?_
  rintro e x1 ⟨a1, c1, rfl, hr, hb⟩
  obtain ⟨n1, hn⟩ : ∃ n, n = Kq.new 5 9 ⟨#[97, 98]⟩ := ⟨_, rfl⟩
  have HN1 : Hid (n1 = Kq.new 5 9 ⟨#[97, 98]⟩) := hn
  rw [← hn]
  have hM := mine10_made (n := n1) B0.out hb hr (by rw [hn]; rfl) (by rw [hn]; exact fine_new (by decide))
  obtain ⟨q1, hq1⟩ : ∃ z, z = x1.heap.size := ⟨_, rfl⟩
  rw [← hq1] at hM
  have M1 : Hid (Mine10 W (x1.alloc (.cells [.int .i64 n1.made, .int .i64 n1.changed, .int .i64 n1.ver, .int .i64 n1.kids, .int .i64 n1.owner, .int .i64 n1.len, .int .i64 n1.cnt, .string n1.data, .int .i64 n1.next, .slice a1 0 c1].toArray 27)) q1 n1 (.slice a1 0 c1)) := hM
  clear hM hr hb hn
  unfold kv
  go_wp2_with fail
  rw [← hq1]
  clear hq1
  generalize x1.alloc (.cells [.int .i64 n1.made, .int .i64 n1.changed, .int .i64 n1.ver, .int .i64 n1.kids, .int .i64 n1.owner, .int .i64 n1.len, .int .i64 n1.cnt, .string n1.data, .int .i64 n1.next, .slice a1 0 c1].toArray 27) = w1 at *
  obtain ⟨n2, hn2⟩ : ∃ n, n = Kq.add n1 ⟨#[98]⟩ := ⟨_, rfl⟩
  obtain ⟨n3, hn3⟩ : ∃ n, n = Kq.add n2 ⟨#[97]⟩ := ⟨_, rfl⟩
  obtain ⟨n4, hn4⟩ : ∃ n, n = Kq.remove n3 ⟨#[98]⟩ := ⟨_, rfl⟩
  obtain ⟨n5, hn5⟩ : ∃ n, n = Kq.write n4 8 ⟨#[97, 98, 99]⟩ := ⟨_, rfl⟩
  have HK : Hid (Kq.Known n1 n2 n3 n4 n5) := by
    have h : Kq.Known n1 n2 n3 n4 n5 := by rw [hn5, hn4, hn3, hn2, HN1.out]; exact Kq.known10
    exact h
  refine (M1.out.add HS.out ⟨#[98]⟩ (by decide) (by rw [HK.out.l1]; decide) true n2 (by rw [HK.out.h1]; rfl) hn2.symm).mono ?_
  rintro e w2 ⟨v2, rfl, hM, hmv⟩
  have M2 : Hid (Mine10 W w2 q1 n2 v2) := hM
  clear hM hmv hn2
  go_wp2_with fail
  refine (M2.out.add HS.out ⟨#[97]⟩ (by decide) (by rw [HK.out.l2]; decide) true n3 (by rw [HK.out.h2]; rfl) hn3.symm).mono ?_
  rintro e w3 ⟨v3, rfl, hM, hmv⟩
  have M3 : Hid (Mine10 W w3 q1 n3 v3) := hM
  clear hM hmv hn3
  go_wp2_with fail
  refine (M3.out.add HS.out ⟨#[98]⟩ (by decide) (by rw [HK.out.l3]; decide) false n3 (by rw [HK.out.h3]; rfl) (Kq.add_no HK.out.h3)).mono ?_
  rintro e w4 ⟨v4, rfl, hM, hmv⟩
  have M4 : Hid (Mine10 W w4 q1 n3 v4) := hM
  clear hM hmv
  go_wp2_with fail
  refine (M4.out.remove HS.out ⟨#[120]⟩ (by decide) false n3 HK.out.h4 (Kq.remove_no HK.out.h4)).mono ?_
  rintro e w5 ⟨v5, rfl, hM, hmv⟩
  have M5 : Hid (Mine10 W w5 q1 n3 v5) := hM
  clear hM hmv
  go_wp2_with fail
  refine (M5.out.remove HS.out ⟨#[98]⟩ (by decide) true n4 HK.out.h3 hn4.symm).mono ?_
  rintro e w6 ⟨v6, rfl, hM, hmv⟩
  have M6 : Hid (Mine10 W w6 q1 n4 v6) := hM
  clear hM hmv hn4
  go_wp2_with fail
  refine (M6.out.write HS.out 8 ⟨#[97, 98, 99]⟩ (by decide)).mono ?_
  rintro e w7 ⟨rfl, hM, hmv⟩
  rw [← hn5] at hM
  have M7' : Hid (Mine10 W w7 q1 n5 v6) := hM
  clear hM hmv hn5
  obtain ⟨va, vc, ev, hvc, hvg⟩ := row_form M7'.out.own.row
  rw [HK.out.names] at ev hvg
  obtain ⟨g, hg⟩ := hvg (by decide)
  simp only [List.length_cons, List.length_nil, Nat.zero_add] at ev
  subst hg ev
  have M7 : Hid (Mine10 W w7 q1 n5 (.slice (some ⟨g, 0, none⟩) 1 vc)) := M7'.out
  clear M7' hvc M1 M2 M3 M4 M5 M6 HN1
  have l0 : w7.cell? ⟨q1, 0, none⟩ = some (.int .i64 n5.made) := M7.out.own.blk.cell 0
  have l1 : w7.cell? ⟨q1, 1, none⟩ = some (.int .i64 n5.changed) := M7.out.own.blk.cell 1
  have l2 : w7.cell? ⟨q1, 2, none⟩ = some (.int .i64 n5.ver) := M7.out.own.blk.cell 2
  have l3 : w7.cell? ⟨q1, 3, none⟩ = some (.int .i64 n5.kids) := M7.out.own.blk.cell 3
  have l4 : w7.cell? ⟨q1, 4, none⟩ = some (.int .i64 n5.owner) := M7.out.own.blk.cell 4
  have l5 : w7.cell? ⟨q1, 5, none⟩ = some (.int .i64 n5.len) := M7.out.own.blk.cell 5
  have l6 : w7.cell? ⟨q1, 6, none⟩ = some (.int .i64 n5.cnt) := M7.out.own.blk.cell 6
  have l7 : w7.cell? ⟨q1, 7, none⟩ = some (.string n5.data) := M7.out.own.blk.cell 7
  have l8 : w7.cell? ⟨q1, 8, none⟩ = some (.int .i64 n5.next) := M7.out.own.blk.cell 8
  have l9 : w7.cell? ⟨q1, 9, none⟩ = some (.slice (some ⟨g, 0, none⟩) 1 vc) := M7.out.own.blk.cell 9
  obtain ⟨q7, hq7⟩ : ∃ z, z = w7.heap.size := ⟨_, rfl⟩
  have k7 := Cb.made w7 (k10 n5 (.slice (some ⟨g, 0, none⟩) 1 vc)) 27
  have b7 := (Below.refl _ w7).alloc (Nat.le_refl _) (.cells (k10 n5 (.slice (some ⟨g, 0, none⟩) 1 vc)).toArray 27)
  rw [← hq7] at k7
  unfold k10 at k7 b7
  go_upto_region 8 with fail
  rw [← hq7]
  clear l0 l1 l2 l3 l4 l5 l6 l7 l8 l9
  generalize w7.alloc (.cells [.int .i64 n5.made, .int .i64 n5.changed, .int .i64 n5.ver, .int .i64 n5.kids, .int .i64 n5.owner, .int .i64 n5.len, .int .i64 n5.cnt, .string n5.data, .int .i64 n5.next, .slice (some ⟨g, 0, none⟩) 1 vc].toArray 27) = w8 at *
  have M8 : Hid (Mine10 W w8 q1 n5 (.slice (some ⟨g, 0, none⟩) 1 vc)) := M7.out.later b7
  have HQ : Hid (q1 ≠ q7 ∧ g ≠ q7 ∧ W.heap.size ≤ q7 ∧ q7 < w8.heap.size) := ⟨fun e => by have := M7.out.own.blk.lt; omega, fun e => by have := (M7.out.own.row.lt g rfl).2; omega, by have := M7.out.below.size; omega, k7.lt⟩
  have k8 := k7.set 2 (.int .i64 2147483647)
  simp only [List.set_cons_zero, List.set_cons_succ] at k8
  have f2 := k7.free 2
  have g2 := k7.cell 2
  simp only [List.getElem?_cons_zero, List.getElem?_cons_succ] at g2
  obtain ⟨n6, hn6⟩ : ∃ n : Kq.Kn, n = { n5 with ver := 2147483647 } := ⟨_, rfl⟩
  have HN6 : Hid (n6 = { n5 with ver := 2147483647 }) := hn6
  have K8 : Hid (Cb (w8.setCell ⟨q7, 2, none⟩ (.int .i64 2147483647)) q7 (k10 n6 (.slice (some ⟨g, 0, none⟩) 1 vc)) 27) := by
    rw [hn6]
    exact k8
  have M9 : Hid (Mine10 W (w8.setCell ⟨q7, 2, none⟩ (.int .i64 2147483647)) q1 n5 (.slice (some ⟨g, 0, none⟩) 1 vc)) := by
    have hset := grownBy_setCell w8 ⟨q7, 2, none⟩ (.int .i64 2147483647)
    have hne : ∀ k, k ≠ q7 → (w8.setCell ⟨q7, 2, none⟩ (.int .i64 2147483647)).heap[k]? = w8.heap[k]? := fun k hk => RowKit.Below.heap_setCell _ _ _ _ hk
    refine ⟨M8.out.own.keep (fun k hk => hne k ?_), M8.out.fine, M8.out.hi, M8.out.below.trans ⟨hset.os, hset.tape, hset.output, hset.size, fun k hk => hne k (by have := HQ.out.2.2.1; omega)⟩⟩
    rcases hk with e | e
    · rw [e]; exact HQ.out.1
    · have e2 : g = k := Option.some.inj e
      rw [← e2]; exact HQ.out.2.1
  clear k7 k8 b7 hq7 hn6
  go_upto_region 9 with fail
  clear f2 g2
  generalize w8.setCell ⟨q7, 2, none⟩ (.int .i64 2147483647) = w9 at *
  go_wp2_with fail
  refine (HS.out.write q7 n6 _ 9 ⟨#[]⟩ w9 K8.out (by rw [HN6.out]; exact ⟨⟨by show (-9223372036854775808 : Int) ≤ 2147483647; decide, by show (2147483647 : Int) ≤ 9223372036854775807; decide⟩, M9.out.fine.kids, M9.out.fine.next, M9.out.fine.many, M9.out.fine.long, M9.out.fine.data⟩) (by decide)).mono ?_
  rintro e w10 ⟨rfl, hk, hg10⟩
  have KA : Hid (Cb w10 q7 (k10 (Kq.write n6 9 ⟨#[]⟩) (.slice (some ⟨g, 0, none⟩) 1 vc)) 27) := hk
  have MA : Hid (Mine10 W w10 q1 n5 (.slice (some ⟨g, 0, none⟩) 1 vc)) := by
    refine ⟨M9.out.own.keep (fun k hk => hg10.block k (M9.out.own.flt hk) (fun e2 => ?_)), M9.out.fine, M9.out.hi, M9.out.below.trans ⟨hg10.os, hg10.tape, hg10.output, hg10.size, fun k hk => hg10.block k (Nat.lt_of_lt_of_le hk M9.out.below.size) (fun e2 => by have := HQ.out.2.2.1; have := Option.some.inj e2; omega)⟩⟩
    have e3 := Option.some.inj e2
    rcases hk with e | e
    · exact HQ.out.1 (e ▸ e3)
    · have e4 : g = k := Option.some.inj e
      exact HQ.out.2.1 (e4.trans e3)
  clear hk hg10 K8 M8 M9 M7
  go_wp2_with fail
  refine (Pw.read_bs (.slice none 0 0) [] w10 (Bs.nil _) (by decide)).mono ?_
  rintro e w11 ⟨qr, rfl, hqr, hrd, hb⟩
  have HB11 : Hid (Below w10.heap.size w10 w11 ∧ Pw.Rd w11 qr [] false ∧ w10.heap.size ≤ qr) := ⟨hb, hrd, hqr⟩
  clear hb hrd hqr
  go_wp2_with fail
  refine (HSB.out.get qr [] false w11 HB11.out.2.1 (by decide)).mono ?_
  rintro e w12 ⟨_, hno, hg12⟩
  obtain ⟨za, zc, rfl⟩ := hno Kq.good_none
  have HB12 : Hid (Below w10.heap.size w10 w12) := Below.reader HB11.out.1 hg12 (Nat.le_refl _) HB11.out.2.2
  clear hno hg12 HB11
  unfold kv Kq.zero
  have b13 := HB12.out.alloc HB12.out.size (.cells [.int .i64 0, .int .i64 0, .int .i64 0, .int .i64 0, .int .i64 0, .int .i64 0, .int .i64 0, .string ⟨#[]⟩, .int .i64 0, .slice za 0 zc].toArray 27)
  go_upto_region 11 with fail
  generalize w12.alloc (.cells [.int .i64 0, .int .i64 0, .int .i64 0, .int .i64 0, .int .i64 0, .int .i64 0, .int .i64 0, .string ⟨#[]⟩, .int .i64 0, .slice za 0 zc].toArray 27) = w13 at *
  obtain ⟨n7, hn7⟩ : ∃ n, n = Kq.write n6 9 ⟨#[]⟩ := ⟨_, rfl⟩
  have HN7 : Hid (n7.ver = 2147483647 ∧ n7.len = 0 ∧ n7.names = n5.names) := by
    rw [hn7, HN6.out]
    exact ⟨rfl, rfl, rfl⟩
  have MD : Hid (Mine10 W w13 q1 n5 (.slice (some ⟨g, 0, none⟩) 1 vc)) := MA.out.later b13
  have KD : Hid (Cb w13 q7 (k10 n7 (.slice (some ⟨g, 0, none⟩) 1 vc)) 27) := by
    rw [hn7]
    exact KA.out.below b13
  clear b13 hn7 KA MA HB12
  have HCE : Hid (∀ w', Below w13.heap.size w13 w' → Mine10 W w' q1 n5 (.slice (some ⟨g, 0, none⟩) 1 vc) ∧ Cb w' q7 (k10 n7 (.slice (some ⟨g, 0, none⟩) 1 vc)) 27 ∧ w'.cell? ⟨g, 0, none⟩ = some (.string ⟨#[97]⟩)) := fun w' hb => by
    have h1 := MD.out.later hb
    refine ⟨h1, KD.out.below hb, ?_⟩
    have h2 := h1.own.row
    rw [HK.out.names] at h2
    exact h2.cellAt 0 (by decide)
  have b1 : (n5.ver == 1) = true := by rw [HK.out.ver]; rfl
  have b2 : (n5.changed == 8) = true := by rw [HK.out.changed]; rfl
  have b3 : (n5.made == 5) = true := by rw [HK.out.made]; rfl
  have b4 : (n5.len == 3) = true := by rw [HK.out.len]; rfl
  have b5 : (n5.kids == 3) = true := by rw [HK.out.kids]; rfl
  have b6 : (n5.cnt == 1) = true := by rw [HK.out.cnt]; rfl
  have b7 : (n5.next == 2) = true := by rw [HK.out.next]; rfl
  have b8 : (n7.ver == 2147483647) = true := by rw [HN7.out.1]; rfl
  have b9 : (n7.len == 0) = true := by rw [HN7.out.2.1]; rfl
  go_wp2_with fail
  refine (MD.out.eph HS.out true (by rw [HK.out.owner]; rfl)).mono ?_
  rintro e w14 ⟨rfl, hM, hb⟩
  have B14 : Hid (Below w13.heap.size w13 w14) := hb
  clear hM hb
  obtain ⟨m14, k14, g14⟩ := HCE.out w14 B14.out
  have M14 : Hid (Mine10 W w14 q1 n5 (.slice (some ⟨g, 0, none⟩) 1 vc)) := m14
  have K14 : Hid (Cb w14 q7 (k10 n7 (.slice (some ⟨g, 0, none⟩) 1 vc)) 27) := k14
  clear m14 k14
  have l0 : w14.cell? ⟨q1, 0, none⟩ = some (.int .i64 n5.made) := M14.out.own.blk.cell 0
  have l1 : w14.cell? ⟨q1, 1, none⟩ = some (.int .i64 n5.changed) := M14.out.own.blk.cell 1
  have l2 : w14.cell? ⟨q1, 2, none⟩ = some (.int .i64 n5.ver) := M14.out.own.blk.cell 2
  have l3 : w14.cell? ⟨q1, 3, none⟩ = some (.int .i64 n5.kids) := M14.out.own.blk.cell 3
  have l4 : w14.cell? ⟨q1, 4, none⟩ = some (.int .i64 n5.owner) := M14.out.own.blk.cell 4
  have l5 : w14.cell? ⟨q1, 5, none⟩ = some (.int .i64 n5.len) := M14.out.own.blk.cell 5
  have l6 : w14.cell? ⟨q1, 6, none⟩ = some (.int .i64 n5.cnt) := M14.out.own.blk.cell 6
  have l7 : w14.cell? ⟨q1, 7, none⟩ = some (.string n5.data) := M14.out.own.blk.cell 7
  have l8 : w14.cell? ⟨q1, 8, none⟩ = some (.int .i64 n5.next) := M14.out.own.blk.cell 8
  have l9 : w14.cell? ⟨q1, 9, none⟩ = some (.slice (some ⟨g, 0, none⟩) 1 vc) := M14.out.own.blk.cell 9
  have r0 : w14.cell? ⟨q7, 0, none⟩ = some (.int .i64 n7.made) := K14.out.cell 0
  have r1 : w14.cell? ⟨q7, 1, none⟩ = some (.int .i64 n7.changed) := K14.out.cell 1
  have r2 : w14.cell? ⟨q7, 2, none⟩ = some (.int .i64 n7.ver) := K14.out.cell 2
  have r3 : w14.cell? ⟨q7, 3, none⟩ = some (.int .i64 n7.kids) := K14.out.cell 3
  have r4 : w14.cell? ⟨q7, 4, none⟩ = some (.int .i64 n7.owner) := K14.out.cell 4
  have r5 : w14.cell? ⟨q7, 5, none⟩ = some (.int .i64 n7.len) := K14.out.cell 5
  have r6 : w14.cell? ⟨q7, 6, none⟩ = some (.int .i64 n7.cnt) := K14.out.cell 6
  have r7 : w14.cell? ⟨q7, 7, none⟩ = some (.string n7.data) := K14.out.cell 7
  have r8 : w14.cell? ⟨q7, 8, none⟩ = some (.int .i64 n7.next) := K14.out.cell 8
  have r9 : w14.cell? ⟨q7, 9, none⟩ = some (.slice (some ⟨g, 0, none⟩) 1 vc) := K14.out.cell 9
  go_wp2_with fail
  refine (HSB.out.same n5 n7 (.slice (some ⟨g, 0, none⟩) 1 vc) (.slice (some ⟨g, 0, none⟩) 1 vc) w14 (ss_own M14.out.own.row) (by rw [HN7.out.2.2]; exact ss_own M14.out.own.row) (by rw [HK.out.names]; decide) (by rw [HN7.out.2.2, HK.out.names]; decide)).mono ?_
  rintro e w15 ⟨R, rfl, hR, hb⟩
  have hRf : R = false := by
    cases R with
    | false => rfl
    | true =>
      have h := hR.1 rfl
      have h1 := HN7.out.1
      rw [← h, HK.out.ver] at h1
      cases h1
  subst hRf
  have B15 : Hid (Below w13.heap.size w13 w15) := B14.out.trans (hb.mono B14.out.size)
  clear hb hR g14
  clear l0 l1 l2 l3 l4 l5 l6 l7 l8 l9
  clear r0 r1 r2 r3 r4 r5 r6 r7 r8 r9
  obtain ⟨m15, k15, g15⟩ := HCE.out w15 B15.out
  have M15 : Hid (Mine10 W w15 q1 n5 (.slice (some ⟨g, 0, none⟩) 1 vc)) := m15
  clear m15 k15 g15
  have l0 : w15.cell? ⟨q1, 0, none⟩ = some (.int .i64 n5.made) := M15.out.own.blk.cell 0
  have l1 : w15.cell? ⟨q1, 1, none⟩ = some (.int .i64 n5.changed) := M15.out.own.blk.cell 1
  have l2 : w15.cell? ⟨q1, 2, none⟩ = some (.int .i64 n5.ver) := M15.out.own.blk.cell 2
  have l3 : w15.cell? ⟨q1, 3, none⟩ = some (.int .i64 n5.kids) := M15.out.own.blk.cell 3
  have l4 : w15.cell? ⟨q1, 4, none⟩ = some (.int .i64 n5.owner) := M15.out.own.blk.cell 4
  have l5 : w15.cell? ⟨q1, 5, none⟩ = some (.int .i64 n5.len) := M15.out.own.blk.cell 5
  have l6 : w15.cell? ⟨q1, 6, none⟩ = some (.int .i64 n5.cnt) := M15.out.own.blk.cell 6
  have l7 : w15.cell? ⟨q1, 7, none⟩ = some (.string n5.data) := M15.out.own.blk.cell 7
  have l8 : w15.cell? ⟨q1, 8, none⟩ = some (.int .i64 n5.next) := M15.out.own.blk.cell 8
  have l9 : w15.cell? ⟨q1, 9, none⟩ = some (.slice (some ⟨g, 0, none⟩) 1 vc) := M15.out.own.blk.cell 9
  go_wp2_with fail
  refine (HSB.out.same n5 n5 (.slice (some ⟨g, 0, none⟩) 1 vc) (.slice (some ⟨g, 0, none⟩) 1 vc) w15 (ss_own M15.out.own.row) (ss_own M15.out.own.row) (by rw [HK.out.names]; decide) (by rw [HK.out.names]; decide)).mono ?_
  rintro e w16 ⟨R, rfl, hR, hb⟩
  have hRt : R = true := hR.2 rfl
  subst hRt
  have B16 : Hid (Below W.heap.size W w16) := M15.out.below.trans (hb.mono M15.out.below.size)
  clear hb hR
  clear l0 l1 l2 l3 l4 l5 l6 l7 l8 l9
  go_wp2
  go_ret
  exact ⟨rfl, B16.out⟩
end Go.Proofs.Ytlgpjgncimcijaa
