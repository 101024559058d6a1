/- What frame.number and frame.Put answer. -/
import Derived.Test.YtmbpkbdaakchiaaSpecs
import Derived.Test.YtmbpkbdaakchiaaRCrc
namespace Go.Proofs.Ytmbpkbdaakchiaa
open Go.RowKit

/-- 'make([]byte, 0, c)': a row of the call's own, with room. -/
theorem make_room {ops : Array Oper} {rest : List Oper} {o : Oper} {a : Act} {Q : Exit → Act → World → Prop} (hgd : o.guard = none) (l c : Operand) (ho : o.op = .makeSlice 31 l c)
    (n : Nat) (w : World) (hl : a.eval l = .int .i64 0) (hc : a.eval c = .int .i64 (n : Int)) (hN : n ≤ 100000000)
    (h : ∀ w', w'.ownsRow w.heap.size 5 1 (.slice (some ⟨w.heap.size, 0, none⟩) 0 n) 0 (bc []) → Below w.heap.size w w' → wpList Try.prog ops Q rest (a.put o.dst (.slice (some ⟨w.heap.size, 0, none⟩) 0 n)) w') : wpList Try.prog ops Q (o :: rest) a w := by
  obtain ⟨i0, hi, hz0, hz1, hz2⟩ := info_parts infoByte
  refine wpList_make_own w hgd l c 31 ho w.heap.size 5 i0 (.int .u8 0) 1 Try.underlying31 hi hz0 hz1 .i64 .i64 _ n hl hc rfl (by rw [hz2]; omega) (by unfold maxLen; omega) (Nat.le_refl _) ?_
  intro w' hown hg
  exact h w' hown ((Below.refl _ w).grown hg (Nat.le_refl _) (fun k hk => by cases hk))

set_option maxHeartbeats 1000000 in
theorem number_any (B : Nat) (v : Value) (n : Nat) (xs : List UInt8) (z : Nat) (w : World) (hown : w.ownsRow B 5 1 v n (bc xs)) (hB : B ≤ w.heap.size) (hN : n ≤ 1000000) (hz : z < 4294967296) :
    Calls Try.prog 41 #[v, .int .u32 (z : Int)] w fun e w' => ∃ v', e = .returned v' ∧ w'.ownsRow B 5 1 v' (n + 4) (bc (xs ++ Fr.be4 z)) ∧ Below B w w' := by
  have HO : Hid (w.ownsRow B 5 1 v n (bc xs)) := hown
  obtain ⟨ao, c, rfl⟩ := own_shape hown
  have HZ : Hid (z < 4294967296) := hz
  have HB : Hid (B ≤ w.heap.size) := hB
  clear hown hz hB
  have HM : Hid (Bs (w.alloc (.cells #[.int .u8 ((z : Int) / 16777216 % 256), .int .u8 ((z : Int) / 65536 % 256), .int .u8 ((z : Int) / 256 % 256), .int .u8 ((z : Int) % 256)] 5)) (.slice (some ⟨w.heap.size, 0, none⟩) 4 4) (Fr.be4 z)) := by
    have h : Bs (w.alloc (.cells #[.int .u8 ((z : Int) / 16777216 % 256), .int .u8 ((z : Int) / 65536 % 256), .int .u8 ((z : Int) / 256 % 256), .int .u8 ((z : Int) % 256)] 5)) (.slice (some ⟨w.heap.size, 0, none⟩) 4 4) (Fr.be4 z) := by
      rw [be4_cells]
      exact Bs.made w (Fr.be4 z) _ _
    exact h
  go_enter Try.func41, Try.ntmps41
  go_wp2_with (at_builtin; refine append_bs rfl _ _ rfl B (.slice ao n c) (.slice (some ⟨w.heap.size, 0, none⟩) 4 4) n xs (Fr.be4 z) _ rfl rfl (HO.out.alloc _) (Nat.le_trans HB.out (by simp)) HM.out (by rw [Fr.be4_len]; omega) ?_)
  intro v2 w2 ho hb
  have HO2 : Hid (w2.ownsRow B 5 1 v2 (n + 4) (bc (xs ++ Fr.be4 z))) := ho
  have HB2 : Hid (Below B w w2) := ((Below.refl B w).alloc HB.out _).trans hb
  clear ho hb
  go_wp2
  go_ret
  exact ⟨_, rfl, HO2.out, HB2.out⟩

/-- Two rows, in a row of the call's own. -/
theorem Bl.two {w : World} {u v : Value} {xs ys : List UInt8} (t : TypeId) (h : Bs w u xs) (k : Bs w v ys) : Bl (w.alloc (.cells #[u, v] t)) (.slice (some ⟨w.heap.size, 0, none⟩) 2 2) [xs, ys] := by
  refine ⟨_, _, _, rfl, rfl, fun j zs hz => ?_⟩
  have hb := (Below.refl w.heap.size w).alloc (Nat.le_refl _) (.cells #[u, v] t)
  match j, hz with
  | 0, hz =>
    simp at hz; subst hz
    exact ⟨w.heap.size, 0, u, rfl, cell?_alloc_at _ _ _ _ _ _ (by simp), h.below hb⟩
  | 1, hz =>
    simp at hz; subst hz
    exact ⟨w.heap.size, 0, v, rfl, cell?_alloc_at _ _ _ _ _ _ (by simp), k.below hb⟩
  | (j + 2), hz => simp at hz

set_option maxRecDepth 20000 in
set_option maxHeartbeats 2000000 in
theorem put_any : PutSpec := by
  intro v u xs r w hv hu hx hr
  have HV : Hid (Bs w v xs) := hv
  have HU : Hid (Bs w u r) := hu
  obtain ⟨av, n, cv, rfl, hn, _⟩ := hv
  obtain ⟨au, m, cu, rfl, hm, _⟩ := hu
  have HN : Hid (n = xs.length ∧ m = r.length) := ⟨hn, hm⟩
  have hn1 : n ≤ 100000 := by omega
  have hm1 : m ≤ 20000 := by omega
  clear hn hm hx hr
  have hmm : (m : Int) % 4294967296 = (m : Int) := by omega
  have t1 : ¬ (20000 : Int) < (m : Int) := by omega
  go_enter Try.func28, Try.ntmps28
  go_wp2_with (at_make; refine make_room rfl _ _ rfl (n + 12 + m) w rfl rfl (by omega) ?_)
  intro w1 ho hb
  have HO1 : Hid (w1.ownsRow w.heap.size 5 1 (.slice (some ⟨w.heap.size, 0, none⟩) 0 (n + 12 + m)) 0 (bc [])) := ho
  have HB1 : Hid (Below w.heap.size w w1) := hb
  clear ho hb
  go_wp2_with (at_builtin; refine append_bs rfl _ _ rfl w.heap.size (.slice (some ⟨w.heap.size, 0, none⟩) 0 (n + 12 + m)) (.slice av n cv) 0 [] xs w1 rfl rfl HO1.out HB1.out.size (HV.out.below HB1.out) (by rw [← HN.out.1]; omega) ?_)
  intro v2 w2 ho hb
  have HO2 : Hid (w2.ownsRow w.heap.size 5 1 v2 n (bc xs)) := by
    have h : w2.ownsRow w.heap.size 5 1 v2 n (bc xs) := by simpa [HN.out.1] using ho
    exact h
  have HB2 : Hid (Below w.heap.size w w2) := HB1.out.trans hb
  clear ho hb
  go_wp2_with fail
  refine (number_any w.heap.size v2 n xs m _ HO2.out HB2.out.size (by omega) (by omega)).mono ?_
  rintro e w3 ⟨v3, rfl, ho, hb⟩
  have HO3 : Hid (w3.ownsRow w.heap.size 5 1 v3 (n + 4) (bc (xs ++ Fr.be4 m))) := ho
  have HB3 : Hid (Below w.heap.size w w3) := HB2.out.trans hb
  clear ho hb
  go_wp2_with fail
  rw [turn32m m (by omega)]
  refine (number_any w.heap.size v3 (n + 4) _ (4294967295 - m) _ HO3.out HB3.out.size (by omega) (by omega)).mono ?_
  rintro e w4 ⟨v4, rfl, ho, hb⟩
  have HO4 : Hid (w4.ownsRow w.heap.size 5 1 v4 (n + 8) (bc (xs ++ Fr.head m))) := by
    have h : w4.ownsRow w.heap.size 5 1 v4 (n + 8) (bc (xs ++ Fr.head m)) := by
      have e : xs ++ Fr.head m = xs ++ Fr.be4 m ++ Fr.be4 (4294967295 - m) := by unfold Fr.head; rw [List.append_assoc]
      rw [e]
      exact ho
    exact h
  have HB4 : Hid (Below w.heap.size w w4) := HB3.out.trans hb
  clear ho hb
  obtain ⟨g4, c4, rfl, _, _⟩ := HO4.out.form (by omega)
  have hc4 : n + 8 ≤ c4 := by
    obtain ⟨ao, n', c', hv, hn, hsl⟩ := Bs.own HO4.out
    simp only [Value.slice.injEq] at hv
    obtain ⟨_, rfl, rfl⟩ := hv
    have := hsl.cap
    omega
  have hnc : ¬ c4 = n := by omega
  have hnc2 : (n : Int) ≤ (c4 : Int) := by omega
  have HS4 : Hid (Bs w4 (.slice (some ⟨g4, n, none⟩) 8 (c4 - n)) (Fr.head m)) := by
    have h := (Bs.own HO4.out).drop (k := n) (by omega)
    rw [Nat.zero_add, Nat.add_sub_cancel_left] at h
    have e : (xs ++ Fr.head m).drop n = Fr.head m := by rw [HN.out.1]; exact List.drop_left
    rw [e] at h
    exact h
  have HU4 : Hid (Bs w4 (.slice au m cu) r) := HU.out.below HB4.out
  go_wp2_with fail
  refine (of_any _ [Fr.head m, r] _ (Bl.two 31 HS4.out HU4.out) (by simp) (fun y hy => ?_)).mono ?_
  · have h1 := HN.out.2
    unfold maxLen
    simp at hy
    rcases hy with rfl | rfl
    · rw [Fr.head_len]; omega
    · omega
  rintro e w5 ⟨rfl, hw⟩
  have HO5 : Hid (w5.ownsRow w.heap.size 5 1 (.slice (some ⟨g4, 0, none⟩) (n + 8) c4) (n + 8) (bc (xs ++ Fr.head m))) := by rw [hw]; exact HO4.out.alloc _
  have HB5 : Hid (Below w.heap.size w w5) := by rw [hw]; exact HB4.out.alloc HB4.out.size _
  have e5 : [Fr.head m, r].flatten = Fr.head m ++ r := by simp
  rw [e5]
  clear hw e5
  go_wp2_with fail
  refine (number_any w.heap.size _ (n + 8) _ (Cr.sum (Fr.head m ++ r)).toNat _ HO5.out HB5.out.size (by omega) (sum_lt _)).mono ?_
  rintro e w6 ⟨v6, rfl, ho, hb⟩
  have HO6 : Hid (w6.ownsRow w.heap.size 5 1 v6 (n + 12) (bc (xs ++ Fr.head m ++ Fr.be4 (Cr.sum (Fr.head m ++ r)).toNat))) := ho
  have HB6 : Hid (Below w.heap.size w w6) := HB5.out.trans hb
  clear ho hb
  go_wp2_with (at_builtin; refine append_bs rfl _ _ rfl w.heap.size v6 (.slice au m cu) (n + 12) _ r w6 rfl rfl HO6.out HB6.out.size (HU.out.below HB6.out) (by rw [← HN.out.2]; omega) ?_)
  intro v7 w7 ho hb
  have HO7 : Hid (w7.ownsRow w.heap.size 5 1 v7 (xs.length + (12 + r.length)) (bc (xs ++ Fr.frame r))) := by
    have h : w7.ownsRow w.heap.size 5 1 v7 (xs.length + (12 + r.length)) (bc (xs ++ Fr.frame r)) := by
      have e : xs ++ Fr.frame r = xs ++ Fr.head m ++ Fr.be4 (Cr.sum (Fr.head m ++ r)).toNat ++ r := by unfold Fr.frame; rw [HN.out.2]; simp only [List.append_assoc]
      have e2 : xs.length + (12 + r.length) = n + 12 + r.length := by rw [HN.out.1]; omega
      rw [e, e2]
      simpa only [List.append_assoc] using ho
    exact h
  have HB7 : Hid (Below w.heap.size w w7) := HB6.out.trans hb
  clear ho hb
  go_wp2
  go_ret2
  exact ⟨_, rfl, HO7.out, HB7.out⟩

set_option maxHeartbeats 1000000 in
theorem long_any : LongSpec := by
  intro v u xs r w hv hu hr hM
  obtain ⟨av, n, cv, rfl, hn, _⟩ := hv
  obtain ⟨au, m, cu, rfl, hm, _⟩ := hu
  have t1 : (20000 : Int) < (m : Int) := by omega
  have t2 : m ≤ 9223372036854775807 := by unfold maxLen at hM; omega
  clear hn hm hr hM
  go_enter Try.func28, Try.ntmps28
  go_wp2
  go_ret2
  exact ⟨_, rfl, Below.refl _ _⟩
end Go.Proofs.Ytmbpkbdaakchiaa
