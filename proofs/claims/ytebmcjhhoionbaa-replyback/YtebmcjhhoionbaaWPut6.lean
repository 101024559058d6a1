/- What reply.packed and reply.Put answer. -/
import Derived.Test.YtebmcjhhoionbaaSpecs6
import Derived.Test.YtebmcjhhoionbaaPlainZ6
import Derived.Test.YtebmcjhhoionbaaLibW
import Derived.Test.YtebmcjhhoionbaaTakeAt
import Derived.Deep.DeepCutAuto
import Derived.Deep.RegionHeld3
namespace Go.Proofs.Ytebmcjhhoionbaa
open Go.RowKit

theorem Bi.made (w : World) (zs : List Int) (t : TypeId) : Bi (w.alloc (.cells (zs.map fun z => Value.int .i64 z).toArray t)) (.slice (some ⟨w.heap.size, 0, none⟩) zs.length zs.length) zs := by
  refine ⟨_, _, _, rfl, rfl, fun j z hz => ⟨w.heap.size, 0, rfl, ?_⟩⟩
  rw [Nat.zero_add]
  exact cell?_alloc_at _ _ _ _ _ _ (by simp [hz])

theorem flat7 (a b c d e f g : Int) : [a, b, c, d, e, f, g].flatMap Pk.be8 = Pk.be8 a ++ Pk.be8 b ++ Pk.be8 c ++ Pk.be8 d ++ Pk.be8 e ++ Pk.be8 f ++ Pk.be8 g := by simp
theorem flat5 (a b c d e : Int) : [a, b, c, d, e].flatMap Pk.be8 = Pk.be8 a ++ Pk.be8 b ++ Pk.be8 c ++ Pk.be8 d ++ Pk.be8 e := by simp

theorem txt_len (l : List UInt8) : (Pk.txt l).length = 8 + l.length := by unfold Pk.txt; rw [List.length_append, Pk.be8_len]

theorem i64_own (v : Value) (xs : List UInt8) (z : Int) (w : World) (h : Bs w v xs) (hN : xs.length ≤ 200000) :
    Calls Try.prog 44 #[v, .int .i64 z] w fun e w' => ∃ v', e = .returned v' ∧ w'.ownsRow w.heap.size 5 1 v' (xs ++ Pk.be8 z).length (bc (xs ++ Pk.be8 z)) ∧ Below w.heap.size w w' := by
  obtain ⟨ao, n, c, rfl, hn, hsl⟩ := h
  refine (Pw.i64_any ao n c xs z w hn hsl (by omega)).mono ?_
  rintro e w' ⟨v', rfl, ho, hb⟩
  refine ⟨v', rfl, ?_, hb⟩
  rw [List.length_append, Pk.be8_len, ← hn]
  exact ho

theorem all_own (u : Value) (zs : List Int) (w : World) (hi : Bi w u zs) (h0 : 0 < zs.length) (hK : zs.length ≤ 10000) :
    Calls Try.prog 27 #[.slice none 0 0, u] w fun e w' => ∃ v', e = .returned v' ∧ w'.ownsRow w.heap.size 5 1 v' (zs.flatMap Pk.be8).length (bc (zs.flatMap Pk.be8)) ∧ Below w.heap.size w w' := by
  obtain ⟨ao, n, c, hv, hn, hsl⟩ := Bs.nil w
  obtain ⟨av, k, cv, rfl, hk, hcs⟩ := hi
  obtain ⟨g, o, rfl, _⟩ := hcs 0 zs[0] (List.getElem?_eq_getElem h0)
  rw [hv]
  refine (Pw.all_some ao n c [] zs g o k cv w hn hsl hk (fun j z hzj => ?_) (by simp at hn; omega) (by omega)).mono ?_
  · obtain ⟨g', o', e, hcell⟩ := hcs j z hzj
    simp only [Option.some.injEq, Addr.mk.injEq, and_true] at e
    obtain ⟨rfl, rfl⟩ := e
    exact hcell
  rintro e w' ⟨v', rfl, ho, hb⟩
  refine ⟨v', rfl, ?_, hb⟩
  simp only [List.length_nil] at hn
  rw [hn, hk, Nat.zero_add, List.nil_append] at ho
  rw [Pw.flat_len]
  exact ho

set_option maxRecDepth 20000 in
set_option maxHeartbeats 4000000 in
theorem packed_any (x : X) (nv : Value) (w : World) (hnv : Sq w nv x.names) (hs : Rq.Small x) :
    Calls Try.prog 28 #[.agg #[.int .i64 x.err, .string x.path, .string x.data, nv, .int .i64 x.made, .int .i64 x.changed, .int .i64 x.ver, .int .i64 x.kids, .int .i64 x.owner, .int .i64 x.len, .int .i64 x.cnt]] w fun e w' => ∃ v', e = .returned v' ∧ Bs w' v' (Rq.xbytes x) ∧ Below w.heap.size w w' := by
  have HN : Hid (Sq w nv x.names ∧ Rq.Small x) := ⟨hnv, hs⟩
  obtain ⟨an, kn, cn, rfl, hkn, hX⟩ := hnv
  have HKN : Hid (kn = x.names.length) := hkn
  have hk500 : kn ≤ 500 := by rw [hkn]; exact hs.count
  clear hX hkn hs
  obtain ⟨q, hq⟩ : ∃ q, q = w.heap.size := ⟨_, rfl⟩
  obtain ⟨w1, hw1⟩ : ∃ W, W = w.alloc (.cells #[.int .i64 x.err, .string x.path, .string x.data, .slice an kn cn, .int .i64 x.made, .int .i64 x.changed, .int .i64 x.ver, .int .i64 x.kids, .int .i64 x.owner, .int .i64 x.len, .int .i64 x.cnt] 35) := ⟨_, rfl⟩
  have HB1 : Hid (Below w.heap.size w w1) := by rw [hw1]; exact (Below.refl _ w).alloc (Nat.le_refl _) _
  have HX1 : Hid (BoxX w1 q x (.slice an kn cn)) := by rw [hw1, hq]; exact BoxX.made w x _ _
  have hp : x.path.size ≤ 20000 := HN.out.2.path
  have hd : x.data.size ≤ 20000 := HN.out.2.data
  go_enter Try.func28, Try.ntmps28
  go_upto_region 1 with fail
  rw [← hw1, ← hq]
  clear hw1 hq
  have kk1 := HX1.out.all
  go_wp2
  go_region_held3 (fun w' => w'.cell? ⟨q, 0, none⟩ = some (.int .i64 x.err) ∧ w'.cell? ⟨q, 1, none⟩ = some (.string x.path) ∧ w'.cell? ⟨q, 2, none⟩ = some (.string x.data) ∧ w'.cell? ⟨q, 4, none⟩ = some (.int .i64 x.made) ∧ w'.cell? ⟨q, 5, none⟩ = some (.int .i64 x.changed) ∧ w'.cell? ⟨q, 6, none⟩ = some (.int .i64 x.ver) ∧ w'.cell? ⟨q, 7, none⟩ = some (.int .i64 x.kids) ∧ w'.cell? ⟨q, 8, none⟩ = some (.int .i64 x.owner) ∧ w'.cell? ⟨q, 9, none⟩ = some (.int .i64 x.len) ∧ w'.cell? ⟨q, 10, none⟩ = some (.int .i64 x.cnt)) (first | exact kk1 | exact kk2 | exact kk3) (first
    | (go_at_call_of 44 (Value.slice none 0 0); refine (Pw.i64_bs _ ([]) x.err _ (Bs.nil _) (by simp)).mono ?_; rintro e w2 ⟨v2, rfl, hbs2, hb0⟩; have hb2 := below_drew hb0; have HS2 : Hid (Bs w2 v2 (Pk.be8 x.err)) := hbs2; have HX2 : Hid (BoxX w2 q x (.slice an kn cn)) := HX1.out.below hb2; have HB2 : Hid (Below w.heap.size w w2) := HB1.out.trans (hb2.mono HB1.out.size); have kk2 := HX2.out.all; clear hbs2 hb0 hb2)
    | (go_at_call_of 43 v2; refine (Pw.text_bs v2 (Pk.be8 x.err) x.path _ HS2.out (by simp [Pk.be8_len]) hp).mono ?_; rintro e w3 ⟨v3, rfl, hbs3, hb0⟩; have hb3 := hb0; have HS3 : Hid (Bs w3 v3 (Pk.be8 x.err ++ Pk.txt x.path.data.toList)) := hbs3; have HX3 : Hid (BoxX w3 q x (.slice an kn cn)) := HX2.out.below hb3; have HB3 : Hid (Below w.heap.size w w3) := HB2.out.trans (hb3.mono HB2.out.size); have kk3 := HX3.out.all; clear hbs3 hb0 hb3))
  clear kk1 kk2 kk3
  obtain ⟨G, hG⟩ : ∃ G, G = Pk.be8 x.err ++ Pk.txt x.path.data.toList := ⟨_, rfl⟩
  have HG : Hid (G = Pk.be8 x.err ++ Pk.txt x.path.data.toList ∧ G.length ≤ 20016) := ⟨hG, by have e1 : x.path.data.toList.length = x.path.size := rfl; rw [hG, List.length_append, Pk.be8_len, txt_len]; omega⟩
  rw [← hG] at HS3
  clear hG
  have kk3 := And.intro HX3.out.all HX3.out.c3
  go_wp2
  go_region_held3 (fun w' => (w'.cell? ⟨q, 0, none⟩ = some (.int .i64 x.err) ∧ w'.cell? ⟨q, 1, none⟩ = some (.string x.path) ∧ w'.cell? ⟨q, 2, none⟩ = some (.string x.data) ∧ w'.cell? ⟨q, 4, none⟩ = some (.int .i64 x.made) ∧ w'.cell? ⟨q, 5, none⟩ = some (.int .i64 x.changed) ∧ w'.cell? ⟨q, 6, none⟩ = some (.int .i64 x.ver) ∧ w'.cell? ⟨q, 7, none⟩ = some (.int .i64 x.kids) ∧ w'.cell? ⟨q, 8, none⟩ = some (.int .i64 x.owner) ∧ w'.cell? ⟨q, 9, none⟩ = some (.int .i64 x.len) ∧ w'.cell? ⟨q, 10, none⟩ = some (.int .i64 x.cnt)) ∧ w'.cell? ⟨q, 3, none⟩ = some (.slice an kn cn)) (first | exact kk3 | exact kk4 | exact kk5) (first
    | (go_at_call_of 43 v3; refine (Pw.text_bs v3 G x.data _ (HS3.out.below (Below.refl _ _).drew) (by have := HG.out.2; omega) hd).mono ?_; rintro e w4 ⟨v4, rfl, hbs4, hb0⟩; have hb4 := below_drew hb0; have HS4 : Hid (Bs w4 v4 (G ++ Pk.txt x.data.data.toList)) := hbs4; have HX4 : Hid (BoxX w4 q x (.slice an kn cn)) := HX3.out.below hb4; have HB4 : Hid (Below w.heap.size w w4) := HB3.out.trans (hb4.mono HB3.out.size); have kk4 := And.intro HX4.out.all HX4.out.c3; clear hbs4 hb0 hb4)
    | (go_at_call_of 44 v4; refine (i64_own v4 (G ++ Pk.txt x.data.data.toList) (kn : Int) _ HS4.out (by have := HG.out.2; have e1 : x.data.data.toList.length = x.data.size := rfl; rw [List.length_append, txt_len]; omega)).mono ?_; rintro e w5 ⟨v5, rfl, hbs5, hb0⟩; have hb5 := hb0; have HS5 : Hid (w5.ownsRow w4.heap.size 5 1 v5 (G ++ Pk.txt x.data.data.toList ++ Pk.be8 (kn : Int)).length (bc (G ++ Pk.txt x.data.data.toList ++ Pk.be8 (kn : Int)))) := hbs5; have HC5 : Hid (Below w4.heap.size w4 w5) := hb5; have HX5 : Hid (BoxX w5 q x (.slice an kn cn)) := HX4.out.below hb5; have HB5 : Hid (Below w.heap.size w w5) := HB4.out.trans (hb5.mono HB4.out.size); have kk5 := And.intro HX5.out.all HX5.out.c3; clear hbs5 hb0 hb5))
  clear kk3 kk4 kk5
  obtain ⟨J, hJ⟩ : ∃ J, J = G ++ Pk.txt x.data.data.toList ++ Pk.be8 (kn : Int) := ⟨_, rfl⟩
  have HJ : Hid (J = G ++ Pk.txt x.data.data.toList ++ Pk.be8 (kn : Int) ∧ J.length ≤ 40040) := ⟨hJ, by have := HG.out.2; have e1 : x.data.data.toList.length = x.data.size := rfl; rw [hJ, List.length_append, List.length_append, Pk.be8_len, txt_len]; omega⟩
  rw [← hJ] at HS5
  have HTB : Hid (∀ j ≤ kn, (J ++ Rq.tbytes (x.names.take j)).length ≤ 10044040) := fun j hj => by
    have h1 := Rq.tbytes_small (ts := x.names.take j) (fun t ht => HN.out.2.texts t (List.mem_of_mem_take ht))
    have h2 : (x.names.take j).length ≤ j := List.length_take_le j _
    have h3 := HJ.out.2
    rw [List.length_append]
    omega
  clear hJ
  have hc3 := HX5.out.c3
  go_wp2
  clear hc3
  go_loopw [3, 23] (fun f i wr => ∃ j : Nat, j ≤ kn ∧ i = .int .i64 (j : Int) ∧ wr.ownsRow w4.heap.size 5 1 f (J ++ Rq.tbytes (x.names.take j)).length (bc (J ++ Rq.tbytes (x.names.take j))) ∧ Below w4.heap.size w4 wr) (fun _ i _ => ((kn : Int) - intOf i).toNat)
  case atStart => exact ⟨0, Nat.zero_le _, rfl, by simpa [Rq.tbytes] using HS5.out, HC5.out⟩
  case round =>
    obtain ⟨j, hj, rfl, ho, hb⟩ := hrel
    have HO : Hid (wr.ownsRow w4.heap.size 5 1 u3 (J ++ Rq.tbytes (x.names.take j)).length (bc (J ++ Rq.tbytes (x.names.take j)))) := ho
    have HC : Hid (Below w4.heap.size w4 wr) := hb
    have HB : Hid (Below w.heap.size w wr) := HB4.out.trans (hb.mono HB4.out.size)
    have HX : Hid (BoxX wr q x (.slice an kn cn)) := HX4.out.below hb
    clear ho hb
    by_cases hlt : j < kn
    · have hlt' : (j : Int) < (kn : Int) := by omega
      have hjl : j < x.names.length := by rw [← HKN.out]; exact hlt
      obtain ⟨g2, o2, c2, hv2, _, hcs⟩ := (HN.out.1.below HB.out).at (by omega)
      simp only [Value.slice.injEq] at hv2
      obtain ⟨rfl, hq2, rfl⟩ := hv2
      have ht := hcs j x.names[j] (List.getElem?_eq_getElem hjl)
      have hts := HN.out.2.texts _ (List.getElem_mem hjl)
      have HJJ : Hid (x.names[j]? = some x.names[j]) := List.getElem?_eq_getElem hjl
      generalize x.names[j] = t at *
      clear hcs hq2 hjl
      go_wp2_with fail
      refine (Pw.text_bs _ [] t _ (Bs.nil _) (by simp) hts).mono ?_
      rintro e w6 ⟨v6, rfl, hbs, hb⟩
      have HS6 : Hid (Bs w6 v6 (Pk.txt t.data.toList)) := hbs
      have HO6 : Hid (w6.ownsRow w4.heap.size 5 1 u3 (J ++ Rq.tbytes (x.names.take j)).length (bc (J ++ Rq.tbytes (x.names.take j)))) := HO.out.kept (grownBy_below (row := some wr.heap.size) hb) (Or.inr fun e => by have := (HO.out.lt _ e).2; omega)
      have HC6 : Hid (Below w4.heap.size w4 w6) := HC.out.trans (hb.mono HC.out.size)
      have HL6 : Hid ((J ++ Rq.tbytes (x.names.take j)).length + (Pk.txt t.data.toList).length ≤ 1000000000) := by
        have h : (J ++ Rq.tbytes (x.names.take j)).length + (Pk.txt t.data.toList).length ≤ 1000000000 := by
          have h1 := HTB.out j hj
          have e1 : t.data.toList.length = t.size := rfl
          rw [txt_len]
          omega
        exact h
      have HTK : Hid (J ++ Rq.tbytes (x.names.take (j + 1)) = (J ++ Rq.tbytes (x.names.take j)) ++ Pk.txt t.data.toList) := by
        have h : J ++ Rq.tbytes (x.names.take (j + 1)) = (J ++ Rq.tbytes (x.names.take j)) ++ Pk.txt t.data.toList := by
          rw [List.take_add_one, HJJ.out]
          simp [Rq.tbytes]
        exact h
      clear hbs hb ht hts
      obtain ⟨Y, hY⟩ : ∃ Y, Y = J ++ Rq.tbytes (x.names.take j) := ⟨_, rfl⟩
      rw [← hY] at HO6 HL6 HTK
      clear hY
      go_wp2_with (at_builtin; refine append_bs rfl _ _ rfl w4.heap.size u3 v6 _ _ _ _ rfl rfl HO6.out HC6.out.size HS6.out HL6.out ?_)
      intro v7 w7 ho7 hb7
      have HE7 : Hid (w7.ownsRow w4.heap.size 5 1 v7 (J ++ Rq.tbytes (x.names.take (j + 1))).length (bc (J ++ Rq.tbytes (x.names.take (j + 1)))) ∧ Below w4.heap.size w4 w7) := by
        refine ⟨?_, HC6.out.trans hb7⟩
        rw [HTK.out, List.length_append (bs := Pk.txt t.data.toList)]
        exact ho7
      clear ho7 hb7
      go_wp2
      go_roundw
      case rel => exact ⟨j + 1, by omega, by go_num, HE7.out.1, HE7.out.2⟩
      case measure => simp [intOf]; omega
    · have hlt' : ¬ (j : Int) < (kn : Int) := by omega
      have hjk : j = kn := by omega
      have HE : Hid (x.names.take j = x.names) := by
        have h : x.names.take j = x.names := List.take_of_length_le (by rw [← HKN.out]; omega)
        exact h
      have HOE : Hid (wr.ownsRow w4.heap.size 5 1 u3 (J ++ Rq.tbytes x.names).length (bc (J ++ Rq.tbytes x.names))) := by
        have h := HO.out
        rw [HE.out] at h
        exact h
      have HLE : Hid ((J ++ Rq.tbytes x.names).length ≤ 10044040) := by
        have h := HTB.out j hj
        rw [HE.out] at h
        exact h
      obtain ⟨wA, hwA⟩ : ∃ W, W = wr.alloc (.cells #[.int .i64 x.made, .int .i64 x.changed, .int .i64 x.ver, .int .i64 x.kids, .int .i64 x.owner, .int .i64 x.len, .int .i64 x.cnt] 2) := ⟨_, rfl⟩
      have hA : Below wr.heap.size wr wA := by rw [hwA]; exact (Below.refl _ wr).alloc (Nat.le_refl _) _
      have HCA : Hid (Below w4.heap.size w4 wA) := HC.out.trans (hA.mono HC.out.size)
      have HOA : Hid (wA.ownsRow w4.heap.size 5 1 u3 (J ++ Rq.tbytes x.names).length (bc (J ++ Rq.tbytes x.names))) := HOE.out.kept (grownBy_below (row := some wr.heap.size) hA) (Or.inr fun e => by have := (HOE.out.lt _ e).2; omega)
      have HBI : Hid (Bi wA (.slice (some ⟨wr.heap.size, 0, none⟩) 7 7) [x.made, x.changed, x.ver, x.kids, x.owner, x.len, x.cnt]) := by rw [hwA]; exact Bi.made wr [x.made, x.changed, x.ver, x.kids, x.owner, x.len, x.cnt] _
      clear hA
      obtain ⟨c0, c1, c2, c3, c4, c5, c6, c7, c8, c9, c10⟩ := HX.out
      go_wp2_with fail
      rw [← hwA]
      clear hwA c0 c1 c2 c3 c4 c5 c6 c7 c8 c9 c10
      refine (Pw.all_bs _ _ [] [x.made, x.changed, x.ver, x.kids, x.owner, x.len, x.cnt] _ (Bs.nil _) HBI.out (by simp) (by simp)).mono ?_
      rintro e w8 ⟨v8, rfl, hbs, hb⟩
      rw [List.nil_append, flat7] at hbs
      have HS8 : Hid (Bs w8 v8 (Rq.sbytes x)) := hbs
      have HO8 : Hid (w8.ownsRow w4.heap.size 5 1 u3 (J ++ Rq.tbytes x.names).length (bc (J ++ Rq.tbytes x.names))) := HOA.out.kept (grownBy_below (row := some wA.heap.size) hb) (Or.inr fun e => by have := (HOA.out.lt _ e).2; omega)
      have HC8 : Hid (Below w4.heap.size w4 w8) := HCA.out.trans (hb.mono HCA.out.size)
      have HL8 : Hid ((J ++ Rq.tbytes x.names).length + (Rq.sbytes x).length ≤ 1000000000) := by
        have h : (J ++ Rq.tbytes x.names).length + (Rq.sbytes x).length ≤ 1000000000 := by
          have h1 := HLE.out
          have h2 : (Rq.sbytes x).length = 56 := by unfold Rq.sbytes; simp [Pk.be8_len]
          omega
        exact h
      clear hbs hb
      go_wp2_with (at_builtin; refine append_bs rfl _ _ rfl w4.heap.size u3 v8 _ _ _ _ rfl rfl HO8.out HC8.out.size HS8.out HL8.out ?_)
      intro v9 w9 ho9 hb9
      have HE9 : Hid (Bs w9 v9 (Rq.xbytes x) ∧ Below w.heap.size w w9) := by
        refine ⟨?_, HB4.out.trans ((HC8.out.trans hb9).mono HB4.out.size)⟩
        have h := Bs.own ho9
        rw [HJ.out.1, HG.out.1, HKN.out] at h
        unfold Rq.xbytes
        simpa only [List.append_assoc] using h
      clear ho9 hb9
      go_wp2
      go_ret
      exact ⟨_, rfl, HE9.out.1, HE9.out.2⟩

set_option maxRecDepth 20000 in
set_option maxHeartbeats 4000000 in
/-- Put, of replies small enough to be read. -/
theorem put_any6 (r : Rp) (u : Value) (w : World) (hu : Rl w u r.xs) (hn : r.xs.length ≤ 20) (hs : ∀ x ∈ r.xs, Rq.Small x) :
    Calls Try.prog 11 #[rv r u] w fun e w' => ∃ v', e = .returned v' ∧ Bs w' v' (Rq.bytes r) ∧ Below w.heap.size w w' := by
  have HU : Hid (Rl w u r.xs ∧ ∀ x ∈ r.xs, Rq.Small x) := ⟨hu, hs⟩
  obtain ⟨au, m, cu, rfl, hm, hX⟩ := hu
  have HM : Hid (m = r.xs.length) := hm
  have hm20 : m ≤ 20 := by omega
  clear hX hm hn hs
  obtain ⟨q, hq⟩ : ∃ q, q = w.heap.size := ⟨_, rfl⟩
  obtain ⟨w1, hw1⟩ : ∃ W, W = w.alloc (.cells #[.int .i64 r.num, .int .i64 r.zxid, .int .i64 r.err, .int .i64 r.at_, .slice au m cu] 26) := ⟨_, rfl⟩
  have HB1 : Hid (Below w.heap.size w w1) := by rw [hw1]; exact (Below.refl _ w).alloc (Nat.le_refl _) _
  have HX1 : Hid (BoxR w1 q r (.slice au m cu)) := by rw [hw1, hq]; exact BoxR.made w r _ _
  unfold rv
  go_enter Try.func11, Try.ntmps11
  go_upto_region 1 with fail
  rw [← hw1, ← hq]
  clear hw1 hq
  obtain ⟨w2, hw2⟩ : ∃ W, W = w1.alloc (.cells #[.int .i64 r.num, .int .i64 r.zxid, .int .i64 r.err, .int .i64 r.at_, .int .i64 (m : Int)] 2) := ⟨_, rfl⟩
  have h2 : Below w1.heap.size w1 w2 := by rw [hw2]; exact (Below.refl _ w1).alloc (Nat.le_refl _) _
  have HB2 : Hid (Below w.heap.size w w2) := HB1.out.trans (h2.mono HB1.out.size)
  have HX2 : Hid (BoxR w2 q r (.slice au m cu)) := HX1.out.below h2
  have HBI : Hid (Bi w2 (.slice (some ⟨w1.heap.size, 0, none⟩) 5 5) [r.num, r.zxid, r.err, r.at_, (m : Int)]) := by rw [hw2]; exact Bi.made w1 [r.num, r.zxid, r.err, r.at_, (m : Int)] _
  clear h2
  obtain ⟨c0, c1, c2, c3, c4⟩ := HX1.out
  go_wp2_with fail
  rw [← hw2]
  clear hw2 c0 c1 c2 c3 c4
  refine (all_own _ [r.num, r.zxid, r.err, r.at_, (m : Int)] _ HBI.out (by simp) (by simp)).mono ?_
  rintro e w3 ⟨v3, rfl, ho, hb⟩
  obtain ⟨P, hP⟩ : ∃ P, P = [r.num, r.zxid, r.err, r.at_, (m : Int)].flatMap Pk.be8 := ⟨_, rfl⟩
  have HP : Hid (P = Pk.be8 r.num ++ Pk.be8 r.zxid ++ Pk.be8 r.err ++ Pk.be8 r.at_ ++ Pk.be8 (m : Int) ∧ P.length = 40) := ⟨by rw [hP, flat5], by rw [hP, Pw.flat_len]; rfl⟩
  rw [← hP] at ho
  have HO3 : Hid (w3.ownsRow w2.heap.size 5 1 v3 P.length (bc P)) := ho
  have HC3 : Hid (Below w2.heap.size w2 w3) := hb
  have HX3 : Hid (BoxR w3 q r (.slice au m cu)) := HX2.out.below hb
  clear ho hb hP
  have HBK : Hid (∀ k ≤ m, (P ++ (r.xs.take k).flatMap Rq.xbytes).length ≤ 300000000) := fun k hk => by
    have h1 := Rq.flat_small (xs := r.xs.take k) (fun x hx => HU.out.2 x (List.mem_of_mem_take hx))
    have h2 : (r.xs.take k).length ≤ k := List.length_take_le k r.xs
    rw [List.length_append, HP.out.2]
    omega
  have c4 := HX3.out.c4
  go_wp2
  clear c4
  go_loopw [3, 22] (fun f i wr => ∃ k : Nat, k ≤ m ∧ i = .int .i64 (k : Int) ∧ wr.ownsRow w2.heap.size 5 1 f (P ++ (r.xs.take k).flatMap Rq.xbytes).length (bc (P ++ (r.xs.take k).flatMap Rq.xbytes)) ∧ Below w2.heap.size w2 wr) (fun _ i _ => ((m : Int) - intOf i).toNat)
  case atStart => exact ⟨0, Nat.zero_le _, rfl, by simpa using HO3.out, HC3.out⟩
  case round =>
    obtain ⟨k, hk, rfl, ho, hb⟩ := hrel
    have HO : Hid (wr.ownsRow w2.heap.size 5 1 u3 (P ++ (r.xs.take k).flatMap Rq.xbytes).length (bc (P ++ (r.xs.take k).flatMap Rq.xbytes))) := ho
    have HC : Hid (Below w2.heap.size w2 wr) := hb
    have HB : Hid (Below w.heap.size w wr) := HB2.out.trans (hb.mono HB2.out.size)
    clear ho hb
    by_cases hlt : k < m
    · have hlt' : (k : Int) < (m : Int) := by omega
      have hkl : k < r.xs.length := by rw [← HM.out]; exact hlt
      obtain ⟨g, b, c', hv', _, hcs⟩ := (HU.out.1.below HB.out).at (by omega)
      simp only [Value.slice.injEq] at hv'
      obtain ⟨rfl, hq, rfl⟩ := hv'
      obtain ⟨nv, hnv, hat⟩ := hcs k r.xs[k] (List.getElem?_eq_getElem hkl)
      have HK : Hid (r.xs[k]? = some r.xs[k] ∧ Rq.Small r.xs[k]) := ⟨List.getElem?_eq_getElem hkl, HU.out.2 _ (List.getElem_mem hkl)⟩
      generalize r.xs[k] = x at *
      clear hcs hq hkl
      have HNV : Hid (Sq wr nv x.names) := hnv
      obtain ⟨an, kn, cn, rfl, hY⟩ := hnv
      clear hY
      obtain ⟨e0, e1, e2, e3, e4, e5, e6, e7, e8, e9, e10⟩ := hat
      obtain ⟨qx, hqx⟩ : ∃ q, q = wr.heap.size := ⟨_, rfl⟩
      obtain ⟨wA, hwA⟩ : ∃ W, W = wr.alloc (.cells #[.int .i64 x.err, .string x.path, .string x.data, .slice an kn cn, .int .i64 x.made, .int .i64 x.changed, .int .i64 x.ver, .int .i64 x.kids, .int .i64 x.owner, .int .i64 x.len, .int .i64 x.cnt] 35) := ⟨_, rfl⟩
      have hA : Below wr.heap.size wr wA := by rw [hwA]; exact (Below.refl _ wr).alloc (Nat.le_refl _) _
      have HXA : Hid (BoxX wA qx x (.slice an kn cn)) := by rw [hwA, hqx]; exact BoxX.made wr x _ _
      have HCA : Hid (Below w2.heap.size w2 wA) := HC.out.trans (hA.mono HC.out.size)
      have HNA : Hid (Sq wA (.slice an kn cn) x.names) := HNV.out.below hA
      have HOA : Hid (wA.ownsRow w2.heap.size 5 1 u3 (P ++ (r.xs.take k).flatMap Rq.xbytes).length (bc (P ++ (r.xs.take k).flatMap Rq.xbytes))) := HO.out.kept (grownBy_below (row := some wr.heap.size) hA) (Or.inr fun e => by have := (HO.out.lt _ e).2; omega)
      clear hA
      go_upto_region 5 with fail
      rw [← hwA, ← hqx]
      clear hwA hqx e0 e1 e2 e3 e4 e5 e6 e7 e8 e9 e10
      obtain ⟨c0, c1, c2, c3, c4, c5, c6, c7, c8, c9, c10⟩ := HXA.out
      go_wp2_with fail
      clear c0 c1 c2 c3 c4 c5 c6 c7 c8 c9 c10
      refine (packed_any x _ _ HNA.out HK.out.2).mono ?_
      rintro e w6 ⟨v6, rfl, hbs, hb⟩
      have HS6 : Hid (Bs w6 v6 (Rq.xbytes x)) := hbs
      have HO6 : Hid (w6.ownsRow w2.heap.size 5 1 u3 (P ++ (r.xs.take k).flatMap Rq.xbytes).length (bc (P ++ (r.xs.take k).flatMap Rq.xbytes))) := HOA.out.kept (grownBy_below (row := some wA.heap.size) hb) (Or.inr fun e => by have := (HOA.out.lt _ e).2; omega)
      have HC6 : Hid (Below w2.heap.size w2 w6) := HCA.out.trans (hb.mono HCA.out.size)
      have HL6 : Hid ((P ++ (r.xs.take k).flatMap Rq.xbytes).length + (Rq.xbytes x).length ≤ 1000000000) := by
        have h : (P ++ (r.xs.take k).flatMap Rq.xbytes).length + (Rq.xbytes x).length ≤ 1000000000 := by
          have h1 := HBK.out k hk
          have h2 := Rq.xbytes_small HK.out.2
          omega
        exact h
      have HTK : Hid (P ++ (r.xs.take (k + 1)).flatMap Rq.xbytes = (P ++ (r.xs.take k).flatMap Rq.xbytes) ++ Rq.xbytes x) := by
        have h : P ++ (r.xs.take (k + 1)).flatMap Rq.xbytes = (P ++ (r.xs.take k).flatMap Rq.xbytes) ++ Rq.xbytes x := by
          rw [List.take_add_one, HK.out.1]
          simp
        exact h
      clear hbs hb
      obtain ⟨Y, hY⟩ : ∃ Y, Y = P ++ (r.xs.take k).flatMap Rq.xbytes := ⟨_, rfl⟩
      rw [← hY] at HO6 HL6 HTK
      clear hY
      go_wp2_with (at_builtin; refine append_bs rfl _ _ rfl w2.heap.size u3 v6 _ _ _ _ rfl rfl HO6.out HC6.out.size HS6.out HL6.out ?_)
      intro v7 w7 ho7 hb7
      have HE7 : Hid (w7.ownsRow w2.heap.size 5 1 v7 (P ++ (r.xs.take (k + 1)).flatMap Rq.xbytes).length (bc (P ++ (r.xs.take (k + 1)).flatMap Rq.xbytes)) ∧ Below w2.heap.size w2 w7) := by
        refine ⟨?_, HC6.out.trans hb7⟩
        rw [HTK.out, List.length_append (bs := Rq.xbytes x)]
        exact ho7
      clear ho7 hb7
      go_wp2
      go_roundw
      case rel => exact ⟨k + 1, by omega, by go_num, HE7.out.1, HE7.out.2⟩
      case measure => simp [intOf]; omega
    · have hlt' : ¬ (k : Int) < (m : Int) := by omega
      have HE : Hid (Bs wr u3 (Rq.bytes r) ∧ Below w.heap.size w wr) := by
        refine ⟨?_, HB.out⟩
        have h := Bs.own HO.out
        rw [List.take_of_length_le (by rw [← HM.out]; omega), HP.out.1, HM.out] at h
        exact h
      go_wp2
      go_ret
      exact ⟨_, rfl, HE.out.1, HE.out.2⟩

theorem put_spec6 : PutSpec6 := fun r u w hu hn hl => put_any6 r u w hu hn (fun x hx => light_small (hl x hx))
end Go.Proofs.Ytebmcjhhoionbaa
