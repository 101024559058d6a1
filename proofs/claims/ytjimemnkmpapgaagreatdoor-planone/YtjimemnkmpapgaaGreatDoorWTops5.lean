/- What op.Tops answers: the first names, rising, each once. -/
import Derived.Test.YtjimemnkmpapgaaGreatDoorLTops
import Derived.Test.YtjimemnkmpapgaaGreatDoorPlainS
import Derived.Test.YtjimemnkmpapgaaGreatDoorLibN
import Derived.Test.YtjimemnkmpapgaaGreatDoorLibQ
import Derived.Test.YtjimemnkmpapgaaGreatDoorTopsSteps
import Derived.Sort.OwnSorted
import Derived.Lib.OwnBridge
namespace Go.Proofs.YtjimemnkmpapgaaGreatDoor
open Go.RowKit
/-- A text of these bytes. -/
def txtOf (l : List UInt8) : ByteArray := ⟨l.toArray⟩
theorem data_of (l : List (List UInt8)) : (l.map txtOf).map (·.data.toList) = l := by
  rw [List.map_map]
  have e : (fun x : List UInt8 => x) = (fun x : ByteArray => x.data.toList) ∘ txtOf := by
    funext x
    simp [txtOf]
  rw [← e, List.map_id']

/-- Behind the sort and the striking of what stands twice. -/
theorem sorted_left {w w1 : World} {g cap n nn q : Nat} {os : Array Obj} {ss : List (List UInt8)} (hown : w1.ownsRow w.heap.size 9 1 (.slice (some ⟨g, 0, none⟩) n cap) n (ss.map encStr)) (hbel : Below w.heap.size w w1) (hbg : w.heap.size ≤ g) (hlen : ss.length = n) :
    Ss (Sort.putRow encStr (Sort.ahead (Sort.grow (Sort.putRow encStr (Sort.ahead w1 nn) g 0 (ss.mergeSort fun x y => decide (x ≤ y)).toArray) os) q) g 0 (Lib.compact (ss.mergeSort fun x y => decide (x ≤ y)) ++ List.replicate (n - (Lib.compact (ss.mergeSort fun x y => decide (x ≤ y))).length) []).toArray) (.slice (some ⟨g, 0, none⟩) (Lib.compact (ss.mergeSort fun x y => decide (x ≤ y))).length cap) ((Lib.compact (ss.mergeSort fun x y => decide (x ≤ y))).map txtOf) ∧
    Below w.heap.size w (Sort.putRow encStr (Sort.ahead (Sort.grow (Sort.putRow encStr (Sort.ahead w1 nn) g 0 (ss.mergeSort fun x y => decide (x ≤ y)).toArray) os) q) g 0 (Lib.compact (ss.mergeSort fun x y => decide (x ≤ y)) ++ List.replicate (n - (Lib.compact (ss.mergeSort fun x y => decide (x ≤ y))).length) []).toArray) := by
  have hl2 : (ss.mergeSort fun x y => decide (x ≤ y)).length = ss.length := List.length_mergeSort ss
  have hle := Lib.compact_length_le (ss.mergeSort fun x y => decide (x ≤ y))
  subst hlen
  rcases hown.2 with ⟨h0, _⟩ | ⟨g', cap', cur, hv, hbase, hb, h1, h2, h3, h4⟩
  · cases h0
  cases hv
  have hs := ownsRow_sorted (n := nn) (os := os) (ts := ss.mergeSort fun x y => decide (x ≤ y)) hl2 hbase hb h1 h2 h3
  have hc := Lib.ownsRow_putRow (q := q) (k := (Lib.compact (ss.mergeSort fun x y => decide (x ≤ y))).length) (ys := Lib.compact (ss.mergeSort fun x y => decide (x ≤ y)) ++ List.replicate (ss.length - (Lib.compact (ss.mergeSort fun x y => decide (x ≤ y))).length) []) hs (by simp; omega) (by omega)
  rw [List.take_left] at hc
  refine ⟨?_, Lib.below_putRow (hbel.grown (grownBy_sorted _) hbel.size (fun j hj => by cases hj; exact hbase)) hbg⟩
  generalize Lib.compact (ss.mergeSort fun x y => decide (x ≤ y)) = L at *
  refine ⟨_, _, _, rfl, by rw [List.length_map], fun j s hs2 => ⟨g, 0, rfl, ?_⟩⟩
  have hj : j < L.length := by
    have := (List.getElem?_eq_some_iff.1 hs2).1
    simpa using this
  have h5 := hc.cellAt j (by omega)
  rw [Nat.zero_add, h5]
  rw [List.getElem?_map, List.getElem?_eq_getElem hj] at hs2 ⊢
  have : txtOf L[j] = s := Option.some.inj hs2
  rw [← this]
  rfl

theorem top_both (p : ByteArray) (w : World) (hS : Pa.Std w) (hp : p.size ≤ maxLen) :
    Calls Tryz.prog 45 #[.string p] w fun e w' => ∃ x : ByteArray, e = .returned (.string x) ∧ x.data.toList = Pl.top p.data.toList ∧ Below w.heap.size w w' := by
  cases hg : Pl.goodB p.data.toList with
  | true => exact Pa.top_any p w hS hg
  | false =>
    refine (Pa.top_bad p w hS hp hg).mono ?_
    rintro e w' ⟨rfl, hb⟩
    refine ⟨_, rfl, ?_, hb⟩
    unfold Pl.top
    rw [Pl.bad_parts hg]
    rfl

set_option maxRecDepth 20000 in
set_option maxHeartbeats 4000000 in
theorem tops_spec : TopsSpec := by
  intro u os w hS hu hl hfit
  have HU : Hid (Ol w u os ∧ os.length ≤ 1000 ∧ (∀ o ∈ os, Fit o) ∧ Pa.Std w) := ⟨hu, hl, hfit, hS⟩
  obtain ⟨au, m, cu, rfl, hm, hX⟩ := hu
  have HM : Hid (m = os.length) := hm
  have hm1 : m ≤ 1000 := by omega
  clear hS hm hX hl hfit
  go_enter Tryz.func27, Tryz.ntmps27
  go_wp2
  go_loopw [3, 9] (fun f i wr => ∃ (k : Nat) (ts : List ByteArray), k ≤ m ∧ i = .int .i64 (k : Int) ∧ ts.map (·.data.toList) = Ts.names (os.take k) ∧ wr.ownsRow w.heap.size 9 1 f ts.length (sc ts) ∧ Below w.heap.size w wr) (fun _ i _ => ((m : Int) - intOf i).toNat)
  case atStart => exact ⟨0, [], Nat.zero_le _, rfl, by simp [Ts.names], World.ownsRow_nil _ _ _ _, Below.refl _ _⟩
  case round =>
    obtain ⟨k, ts, hk, rfl, hts, hown, hb⟩ := hrel
    have HT : Hid (ts.map (·.data.toList) = Ts.names (os.take k)) := hts
    have HO : Hid (wr.ownsRow w.heap.size 9 1 u3 ts.length (sc ts)) := hown
    have HB : Hid (Below w.heap.size w wr) := hb
    have HTL : Hid (ts.length ≤ k) := by
      have h : ts.length ≤ k := by
        have h1 := Ts.names_len (os.take k)
        rw [← hts, List.length_map] at h1
        have h2 := List.length_take_le k os
        omega
      exact h
    clear hts hown hb
    by_cases hlt : k < m
    · have hlt' : (k : Int) < (m : Int) := by omega
      have hkl : k < os.length := by rw [← HM.out]; exact hlt
      obtain ⟨g, b, c', hv', hcs⟩ := (HU.out.1.below HB.out).at (by omega)
      simp only [Value.slice.injEq] at hv'
      obtain ⟨rfl, hq, rfl⟩ := hv'
      obtain ⟨e0, e1, e2, e3, e4⟩ := hcs k os[k] (List.getElem?_eq_getElem hkl)
      have HK : Hid (os[k]? = some os[k] ∧ Fit os[k]) := ⟨List.getElem?_eq_getElem hkl, HU.out.2.2.1 _ (List.getElem_mem hkl)⟩
      generalize os[k] = o at *
      clear hcs hq hkl
      have HAL : Hid (Below wr.heap.size wr (wr.alloc (.cells #[.int .i64 o.kind, .string o.path, .string o.data, .int .i64 o.ver, .int .i64 o.flags] 38))) := (Below.refl _ wr).alloc (Nat.le_refl _) _
      go_wp2_with fail
      refine (top_both o.path _ ((HU.out.2.2.2.below HB.out).below HAL.out) HK.out.2.path).mono ?_
      rintro e w2 ⟨x, rfl, hx, hb2⟩
      have HX : Hid (x.data.toList = Pl.top o.path.data.toList) := hx
      have HB2 : Hid (Below wr.heap.size wr w2) := HAL.out.trans (hb2.mono HAL.out.size)
      have HBW : Hid (Below w.heap.size w w2) := HB.out.trans (HB2.out.mono HB.out.size)
      have HO2 : Hid (w2.ownsRow w.heap.size 9 1 u3 ts.length (sc ts)) := HO.out.kept (grownBy_below (row := none) HB2.out) (Classical.em _)
      clear hx hb2 HAL e0 e1 e2 e3 e4
      cases he : x.toList.isEmpty with
      | true =>
        have HN : Hid (ts.map (·.data.toList) = Ts.names (os.take (k + 1))) := by
          have h : ts.map (·.data.toList) = Ts.names (os.take (k + 1)) := by
            rw [take_more HK.out.1, Ts.names_snoc, ← HX.out, HT.out]
            rw [ByteArray.toList_eq] at he
            rw [he]
            simp
          exact h
        go_wp2
        go_roundw
        case rel => exact ⟨k + 1, ts, by omega, by go_num, HN.out, HO2.out, HBW.out⟩
        case measure => simp [intOf]; omega
      | false =>
        have HN : Hid ((ts ++ [x]).map (·.data.toList) = Ts.names (os.take (k + 1))) := by
          have h : (ts ++ [x]).map (·.data.toList) = Ts.names (os.take (k + 1)) := by
            rw [take_more HK.out.1, Ts.names_snoc, ← HX.out, List.map_append, HT.out]
            rw [ByteArray.toList_eq] at he
            rw [he]
            simp
          exact h
        have HSX : Hid (Src (w2.alloc (.cells #[.string x] 9)) (.slice (some ⟨w2.heap.size, 0, none⟩) 1 1) [x]) := Src.one w2 x _
        go_wp2_with (at_builtin; refine append_strs rfl _ _ rfl w.heap.size u3 (.slice (some ⟨w2.heap.size, 0, none⟩) 1 1) ts [x] _ rfl rfl (HO2.out.alloc _) (Nat.le_trans HBW.out.size (by simp)) HSX.out (by have := HTL.out; simp only [List.length_cons, List.length_nil]; omega) ?_)
        intro v3 w3 ho3 hb3
        have HE : Hid (w3.ownsRow w.heap.size 9 1 v3 (ts ++ [x]).length (sc (ts ++ [x])) ∧ Below w.heap.size w w3) := ⟨by rw [List.length_append]; exact ho3, (HBW.out.alloc HBW.out.size _).trans hb3⟩
        clear ho3 hb3
        go_wp2
        go_roundw
        case rel => exact ⟨k + 1, ts ++ [x], by omega, by go_num, HN.out, HE.out.1, HE.out.2⟩
        case measure => simp [intOf]; omega
    · have hlt' : ¬ (k : Int) < (m : Int) := by omega
      have HN : Hid (ts.map (·.data.toList) = Ts.names os) := by
        have h := HT.out
        rw [List.take_of_length_le (by rw [← HM.out]; omega)] at h
        exact h
      have HL1 : Hid (ts.length ≤ 1000) := by
        have h : ts.length ≤ 1000 := by have := HTL.out; omega
        exact h
      obtain ⟨ss, hss⟩ : ∃ ss, ss = ts.map (·.data.toList) := ⟨_, rfl⟩
      obtain ⟨N, hNN⟩ : ∃ N, N = ts.length := ⟨_, rfl⟩
      have HSS : Hid (ss = ts.map (·.data.toList) ∧ N = ts.length ∧ ss.length = N) := ⟨hss, hNN, by rw [hss, hNN, List.length_map]⟩
      have HOS : Hid (wr.ownsRow w.heap.size 9 1 u3 N (ss.map encStr)) := by
        rw [hss, hNN, Lib.map_encStr]
        exact HO.out
      have HTS : Hid (Ts.Tops os (Lib.compact (ss.mergeSort fun x y => decide (x ≤ y)))) := by
        have h := Ts.tops_sorted os
        rw [← HN.out, ← hss] at h
        exact h
      have hN1 : N ≤ 1000 := by rw [hNN]; exact HL1.out
      clear hss hNN
      by_cases hn0 : N = 0
      · have HNIL : Hid (ss = []) := by
          have h : ss = [] := List.eq_nil_of_length_eq_zero (by rw [HSS.out.2.2]; exact hn0)
          exact h
        have HTS2 : Hid (Ts.Tops os ([] : List (List UInt8))) := by
          have h := HTS.out
          rw [HNIL.out] at h
          have e : Lib.compact (([] : List (List UInt8)).mergeSort fun x y => decide (x ≤ y)) = [] := by simp [Lib.compact, Lib.compactUpTo]
          rw [e] at h
          exact h
        obtain ⟨a3, c3, hu3⟩ : ∃ a c, u3 = .slice a 0 c := by
          rcases HOS.out.2 with ⟨h, _⟩ | ⟨g, cap, cur, h, _⟩
          · exact ⟨_, _, h⟩
          · rw [hn0] at h
            exact ⟨_, _, h⟩
        subst hu3
        clear hn0
        go_wp2_with (first
          | (go_at_call 48; refine (Tryz.slices_Sort_string_none a3 c3 _).mono ?_; rintro e w2 ⟨rfl, hw2⟩; rw [hw2]; clear hw2)
          | (go_at_call 49; refine (Tryz.slices_Compact_string_empty a3 c3 _).mono ?_; rintro e w2 ⟨rfl, hw2⟩; rw [hw2]; clear hw2))
        go_ret
        exact ⟨_, [], rfl, ⟨_, _, _, rfl, rfl, fun j s hs => by simp at hs⟩, HTS2.out, HB.out⟩
      · obtain ⟨g, cap, hu3, hbg, hgl, hncap, hcm, hlen, hH⟩ := Lib.holds_of_ownsRow HOS.out (fun e => by
          have h := HOS.out.2
          rw [e] at h
          rcases h with ⟨_, h⟩ | ⟨_, _, _, h, _⟩
          · exact hn0 h
          · cases h)
        subst hu3
        have HX : Hid (w.heap.size ≤ g ∧ g < wr.heap.size ∧ N ≤ cap ∧ ss.length = N ∧ Sort.Holds encStr wr g 0 ss.toArray) := ⟨hbg, hgl, hncap, hlen, hH⟩
        clear hbg hgl hncap hcm hlen hH
        have hsort := Tryz.slices_Sort_string g 0 cap ss wr HX.out.2.2.2.2 HX.out.2.1 (by rw [HX.out.2.2.2.1]; omega)
        rw [HX.out.2.2.2.1] at hsort
        have HSORT : Hid (Calls Tryz.prog 48 #[.slice (some ⟨g, 0, none⟩) N cap] wr fun e w' => e = .returned (.tuple #[]) ∧ ∃ n os, w' = Sort.grow (Sort.putRow encStr (Sort.ahead wr n) g 0 (ss.mergeSort fun x y => decide (x ≤ y)).toArray) os) := hsort
        clear hsort
        go_wp2_with fail
        refine HSORT.out.mono ?_
        rintro e w2 ⟨rfl, nn, ob, hw2⟩
        have hl2 : (ss.mergeSort fun x y => decide (x ≤ y)).length = N := by rw [List.length_mergeSort]; exact HX.out.2.2.2.1
        have hH2 : Sort.Holds encStr w2 g 0 (ss.mergeSort fun x y => decide (x ≤ y)).toArray := by
          rw [hw2]
          exact Sort.holds_grow encStr _ ob g 0 _ (by simpa [Sort.putRow, Sort.mapBlock, Sort.ahead] using HX.out.2.1) (Sort.holds_putRow encStr _ g 0 _ _ (Sort.holds_ahead encStr wr nn g 0 _ HX.out.2.2.2.2) (by simp))
        have hcomp := Tryz.slices_Compact_string g 0 cap (ss.mergeSort fun x y => decide (x ≤ y)) w2 hH2 (by rw [hl2]; omega) (by rw [hl2]; exact HX.out.2.2.1)
        rw [hl2] at hcomp
        have HCOMP : Hid (Calls Tryz.prog 49 #[.slice (some ⟨g, 0, none⟩) N cap] w2 fun e w' => e = .returned (.slice (some ⟨g, 0, none⟩) (Lib.compact (ss.mergeSort fun x y => decide (x ≤ y))).length cap) ∧ ∃ q, w' = Sort.putRow encStr (Sort.ahead w2 q) g 0 (Lib.compact (ss.mergeSort fun x y => decide (x ≤ y)) ++ List.replicate (N - (Lib.compact (ss.mergeSort fun x y => decide (x ≤ y))).length) []).toArray) := hcomp
        have HW2 : Hid (w2 = Sort.grow (Sort.putRow encStr (Sort.ahead wr nn) g 0 (ss.mergeSort fun x y => decide (x ≤ y)).toArray) ob) := hw2
        clear hcomp hH2 hl2 hw2
        go_wp2_with fail
        refine HCOMP.out.mono ?_
        rintro e w3 ⟨rfl, q, hw3⟩
        have HEND : Hid (TopsPost os w (.returned (.slice (some ⟨g, 0, none⟩) (Lib.compact (ss.mergeSort fun x y => decide (x ≤ y))).length cap)) w3) := by
          have h := sorted_left HOS.out HB.out HX.out.1 HX.out.2.2.2.1 (nn := nn) (q := q) (os := ob)
          rw [hw3, HW2.out]
          exact ⟨_, _, rfl, h.1, by rw [data_of]; exact HTS.out, h.2⟩
        clear hw3
        generalize (Lib.compact (ss.mergeSort fun x y => decide (x ≤ y))).length = L at *
        go_wp2
        go_ret
        exact HEND.out
end Go.Proofs.YtjimemnkmpapgaaGreatDoor
