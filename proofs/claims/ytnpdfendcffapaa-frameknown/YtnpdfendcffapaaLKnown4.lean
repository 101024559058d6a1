/- The walk of the statement FrameKnown, over what Put and Scan answer: it answers true. -/
import Derived.Test.YtnpdfendcffapaaSpecs
namespace Go.Proofs.Ytnpdfendcffapaa
open Go.RowKit

theorem scan_12 : Fr.scan (List.replicate 12 0) = ([], 0, 2) := by decide +kernel
theorem scan_11 : Fr.scan (List.replicate 11 0) = ([], 0, 1) := by decide +kernel

theorem scan_short (r : List UInt8) (h : r.length = 20000) : Fr.scan ((Fr.frame r).take 20011) = ([], 0, 1) := by
  refine Fr.scan_bad (fun e => ?_) (Fr.one_cut r 20011 (by omega) (by omega))
  have := congrArg List.length e
  rw [List.length_take, Fr.frame_len, h] at this
  simp at this

/-- 'make([]byte, n)' of a number that is typed out. -/
theorem make_lit {ops : Array Oper} {rest : List Oper} {o : Oper} {a : Act} {Q : Exit → Act → World → Prop} (hgd : o.guard = none) (l c : Operand) (ho : o.op = .makeSlice 23 l c)
    (L : Int) (n : Nat) (hL : L = (n : Int)) (w : World) (hl : a.eval l = .int .i64 L) (hc : a.eval c = .int .i64 L) (hN : n ≤ 100000000)
    (h : ∀ w', w'.ownsRow w.heap.size 5 1 (.slice (some ⟨w.heap.size, 0, none⟩) n n) n (bc (List.replicate n 0)) → Below w.heap.size w w' → wpList Try.prog ops Q rest (a.put o.dst (.slice (some ⟨w.heap.size, 0, none⟩) n n)) w') : wpList Try.prog ops Q (o :: rest) a w := by
  subst hL
  exact make_bytes hgd l c ho n w hl hc hN h

set_option maxRecDepth 20000 in
set_option maxHeartbeats 2000000 in
theorem known_any (hp : PutSpec) (hlg : LongSpec) (hs : ScanSpec) (w : World) : Calls Try.prog 3 #[] w fun e w' => e = .returned (.bool true) ∧ Below w.heap.size w w' := by
  have HP : Hid PutSpec := hp
  have HLG : Hid LongSpec := hlg
  have HSc : Hid ScanSpec := hs
  clear hp hlg hs
  obtain ⟨N20001, hN20001⟩ : ∃ N : Nat, (20001 : Int) = (N : Int) := ⟨20001, by omega⟩
  have HN20001 : Hid ((20001 : Int) = (N20001 : Int)) := hN20001
  clear hN20001
  obtain ⟨N20000, hN20000⟩ : ∃ N : Nat, (20000 : Int) = (N : Int) := ⟨20000, by omega⟩
  have HN20000 : Hid ((20000 : Int) = (N20000 : Int)) := hN20000
  clear hN20000
  obtain ⟨N12, hN12⟩ : ∃ N : Nat, (12 : Int) = (N : Int) := ⟨12, by omega⟩
  have HN12 : Hid ((12 : Int) = (N12 : Int)) := hN12
  clear hN12
  obtain ⟨N11, hN11⟩ : ∃ N : Nat, (11 : Int) = (N : Int) := ⟨11, by omega⟩
  have HN11 : Hid ((11 : Int) = (N11 : Int)) := hN11
  clear hN11
  go_enter Try.func3, Try.ntmps3
  go_wp2_with fail
  refine (awake_any HP.out HSc.out _).mono ?_
  rintro e w1 ⟨rfl, hb⟩
  have HB1 : Hid (Below w.heap.size w w1) := hb
  clear hb
  go_wp2_with (at_make; refine make_lit rfl _ _ rfl _ N20001 HN20001.out w1 rfl rfl (by have := HN20001.out; omega) ?_)
  intro w2 ho hb
  have HO2 : Hid (Bs w2 (.slice (some ⟨w1.heap.size, 0, none⟩) N20001 N20001) (List.replicate N20001 0)) := Bs.own ho
  have HB2 : Hid (Below w.heap.size w w2) := HB1.out.trans (hb.mono HB1.out.size)
  clear ho hb
  go_wp2_with fail
  refine (HLG.out _ _ [] (List.replicate N20001 0) _ (Bs.nil _) HO2.out (by rw [List.length_replicate]; have := HN20001.out; omega) (by rw [List.length_replicate]; have := HN20001.out; unfold maxLen; omega)).mono ?_
  rintro e w3 ⟨v3, rfl, hb⟩
  have HB3 : Hid (Below w.heap.size w w3) := HB2.out.trans (hb.mono HB2.out.size)
  clear hb
  go_wp2_with (at_make; refine make_lit rfl _ _ rfl _ N20000 HN20000.out w3 rfl rfl (by have := HN20000.out; omega) ?_)
  intro w4 ho hb
  obtain ⟨R, hR⟩ : ∃ R : List UInt8, R = List.replicate N20000 0 := ⟨_, rfl⟩
  have HR : Hid (R.length = 20000) := by
    have h : R.length = 20000 := by rw [hR, List.length_replicate]; have := HN20000.out; omega
    exact h
  have HO4 : Hid (Bs w4 (.slice (some ⟨w3.heap.size, 0, none⟩) N20000 N20000) R) := by
    have h := Bs.own ho
    rw [← hR] at h
    exact h
  have HB4 : Hid (Below w.heap.size w w4) := HB3.out.trans (hb.mono HB3.out.size)
  clear ho hb hR
  go_wp2_with fail
  refine (HP.out _ _ [] R _ (Bs.nil _) HO4.out (by simp) (by rw [HR.out]; omega)).mono ?_
  rintro e w5 ⟨v5, rfl, ho, hb⟩
  obtain ⟨N5, hN5⟩ : ∃ N5 : Nat, N5 = 12 + R.length := ⟨_, rfl⟩
  have e5 : ([] : List UInt8).length + (12 + R.length) = N5 := by rw [hN5]; simp
  rw [e5] at ho
  have hN5b : 20011 ≤ N5 := by have := HR.out; omega
  obtain ⟨g5, c5, rfl, _, _⟩ := ho.form (by omega)
  have HO5 : Hid (Bs w5 (.slice (some ⟨g5, 0, none⟩) N5 c5) (Fr.frame R)) := Bs.own ho
  have hc5 : (20011 : Int) ≤ (c5 : Int) := by
    obtain ⟨ao, n, c, hv, hn, hsl⟩ := HO5.out
    simp only [Value.slice.injEq] at hv
    obtain ⟨_, rfl, rfl⟩ := hv
    have := hsl.cap
    omega
  have HB5 : Hid (Below w.heap.size w w5) := HB4.out.trans (hb.mono HB4.out.size)
  clear ho hb e5 hN5
  go_wp2_with fail
  refine (HSc.out _ _ _ (HO5.out.cut (k := 20011) hN5b) (by rw [List.length_take, Fr.frame_len, HR.out]; omega)).mono ?_
  rw [scan_short R HR.out]
  rintro e w6 ⟨l6, rfl, _, _, hb⟩
  have HB6 : Hid (Below w.heap.size w w6) := HB5.out.trans (hb.mono HB5.out.size)
  clear hb
  go_wp2_with (at_make; refine make_lit rfl _ _ rfl _ N12 HN12.out w6 rfl rfl (by have := HN12.out; omega) ?_)
  intro w7 ho hb
  have HO7 : Hid (Bs w7 (.slice (some ⟨w6.heap.size, 0, none⟩) N12 N12) (List.replicate N12 0)) := Bs.own ho
  have HB7 : Hid (Below w.heap.size w w7) := HB6.out.trans (hb.mono HB6.out.size)
  clear ho hb
  go_wp2_with fail
  refine (HSc.out _ _ _ HO7.out (by rw [List.length_replicate]; have := HN12.out; omega)).mono ?_
  rw [show N12 = 12 from by have := HN12.out; omega, scan_12]
  rintro e w8 ⟨l8, rfl, _, _, hb⟩
  have HB8 : Hid (Below w.heap.size w w8) := HB7.out.trans (hb.mono HB7.out.size)
  clear hb
  go_wp2_with (at_make; refine make_lit rfl _ _ rfl _ N11 HN11.out w8 rfl rfl (by have := HN11.out; omega) ?_)
  intro w9 ho hb
  have HO9 : Hid (Bs w9 (.slice (some ⟨w8.heap.size, 0, none⟩) N11 N11) (List.replicate N11 0)) := Bs.own ho
  have HB9 : Hid (Below w.heap.size w w9) := HB8.out.trans (hb.mono HB8.out.size)
  clear ho hb
  go_wp2_with fail
  refine (HSc.out _ _ _ HO9.out (by rw [List.length_replicate]; have := HN11.out; omega)).mono ?_
  rw [show N11 = 11 from by have := HN11.out; omega, scan_11]
  rintro e w10 ⟨l10, rfl, _, _, hb⟩
  have HB10 : Hid (Below w.heap.size w w10) := HB9.out.trans (hb.mono HB9.out.size)
  clear hb
  go_wp2_with fail
  refine (HSc.out _ [] _ (Bs.nil _) (by simp)).mono ?_
  rw [Fr.scan_nil]
  rintro e w11 ⟨l11, rfl, _, _, hb⟩
  have HB11 : Hid (Below w.heap.size w w11) := HB10.out.trans (hb.mono HB10.out.size)
  clear hb
  go_wp2
  go_ret
  exact ⟨rfl, HB11.out⟩
end Go.Proofs.Ytnpdfendcffapaa
