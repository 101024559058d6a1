/- What the reference's I64 and Txt answer; 'append([]byte{}, b...)'. -/
import Derived.Test.YteloehalobampaaWBs
namespace Go.Proofs.Yteloehalobampaa
open Go.RowKit

/-- 'append([]byte{}, b...)': a row of the call's own. -/
theorem append_copy {ops : Array Oper} {rest : List Oper} {o : Oper} {a : Act} {Q : Exit → Act → World → Prop} (hgd : o.guard = none) (s x : Operand)
    (ho : o.op = .call { callee := .builtin .append, args := #[s, x], argTypes := #[25, 25] })
    (v : Value) (xs : List UInt8) (w0 : World) (hs : a.eval s = .slice (some ⟨w0.heap.size, 0, none⟩) 0 0) (hx : a.eval x = v) (hb : Bs w0 v xs) (hN : xs.length ≤ 100000)
    (h : ∀ v' w', w'.ownsRow w0.heap.size 5 1 v' xs.length (bc xs) → Below w0.heap.size w0 w' → wpList Try.prog ops Q rest (a.put o.dst v') w') : wpList Try.prog ops Q (o :: rest) a (w0.alloc (.cells #[] 5)) := by
  obtain ⟨i0, hi, hz0, hz1, hz2⟩ := info_parts infoByte
  obtain ⟨ao, n, c, rfl, hn, hsl⟩ := hb
  have hown : (w0.alloc (.cells #[] 5)).ownsRow w0.heap.size 5 1 (.slice (some ⟨w0.heap.size, 0, none⟩) 0 0) 0 (bc []) := World.ownsRow_made w0 #[] 0 (Nat.le_refl _) (by decide) rfl
  have hal := hsl.alloc (.cells #[] 5)
  cases ao with
  | none =>
    obtain ⟨h0, rfl⟩ := hsl.nil rfl
    obtain rfl : xs = [] := List.length_eq_zero_iff.1 h0
    obtain rfl : n = 0 := hn
    exact wpList_append_own_none hgd s x 25 ho w0.heap.size 5 i0 1 Try.underlying25 hi _ 0 (bc []) hs hown hx (h _ _ hown ((Below.refl _ w0).alloc (Nat.le_refl _) _))
  | some ad =>
    subst hn
    refine wpList_append_own _ hgd s x 25 ho w0.heap.size 5 i0 (.int .u8 0) 1 1 Try.underlying25 hi hz0 hz1 hz2 rfl (by decide) _ 0 (bc []) hs hown ad xs.length c (bc xs) hx (by rw [bc_len]; omega) (hal.cells ad rfl) (bc_one _) (by unfold maxLen; omega) (by omega) (by simp) ?_
    intro v' w' ho' hg _
    refine h v' w' (by simpa [bc] using ho') (((Below.refl _ w0).alloc (Nat.le_refl _) _).grown hg (by simp) (fun k hk => ?_))
    simp [Value.ownBlock] at hk; omega

set_option maxHeartbeats 400000 in
theorem refI64_any (v : Value) (xs : List UInt8) (z : Int) (w : World) (hb : Bs w v xs) (hN : xs.length ≤ 100000) :
    Calls Try.prog 23 #[v, .int .i64 z] w fun e w' => ∃ v', e = .returned v' ∧ w'.ownsRow w.heap.size 5 1 v' (xs.length + 8) (bc (xs ++ Pk.be8 z)) ∧ Below w.heap.size w w' := by
  have HS : Hid (Bs w v xs) := hb
  have HN : Hid (xs.length ≤ 100000) := hN
  obtain ⟨n, hn⟩ : ∃ n, n = xs.length := ⟨_, rfl⟩
  have HL : Hid (n = xs.length) := hn
  have hN1 : n ≤ 100000 := by omega
  rw [← hn]
  clear hb hN hn
  go_enter Try.func23, Try.ntmps23
  go_wp2_with (at_builtin; refine append_copy rfl _ _ rfl v xs w rfl rfl HS.out HN.out ?_)
  intro v1 w1 hown hb
  rw [← HL.out] at hown
  have HO : Hid (w1.ownsRow w.heap.size 5 1 v1 n (bc xs)) := hown
  have HB : Hid (Below w.heap.size w w1) := hb
  clear hown hb
  go_wp2
  go_loopw [5, 6] (fun u i wr => ∃ k : Nat, k ≤ 8 ∧ i = .int .i64 (7 - (k : Int)) ∧ wr.ownsRow w.heap.size 5 1 u (n + k) (bc (xs ++ (Pk.be8 z).take k)) ∧ Below w.heap.size w wr) (fun _ i _ => (intOf i + 1).toNat)
  case atStart => exact ⟨0, by omega, rfl, by simpa using HO.out, HB.out⟩
  case round =>
    obtain ⟨k, hk, rfl, hown, hb⟩ := hrel
    have HO1 : Hid (wr.ownsRow w.heap.size 5 1 u5 (n + k) (bc (xs ++ (Pk.be8 z).take k))) := hown
    have HB1 : Hid (Below w.heap.size w wr) := hb
    clear hown hb
    by_cases h8 : k < 8
    · have h0 : (0 : Int) ≤ 7 - (k : Int) := by omega
      have hBw : w.heap.size ≤ wr.heap.size := HB1.out.size
      go_wp2_with (at_builtin; refine append_byte rfl _ _ rfl w.heap.size u5 _ _ rfl wr _ (Pk.byteAt z (56 - 8 * k)) HO1.out hBw rfl (by omega) ?c1 ?_)
      case c1 => rw [Pk.byteAt_nat, IntKind.wrap_u64, show 8 * (7 - k) = 56 - 8 * k by omega]
      intro v' w1 hown hb
      have HO2 : Hid (w1.ownsRow w.heap.size 5 1 v' (n + k + 1) (bc (xs ++ ((Pk.be8 z).take k ++ [Pk.byteAt z (56 - 8 * k)])))) := by first | exact hown | (rw [← List.append_assoc]; exact hown)
      have HB2 : Hid (Below w.heap.size w w1) := HB1.out.trans hb
      clear hown hb
      go_wp2
      go_roundw
      case rel => exact ⟨k + 1, by omega, by go_num, by rw [be8_take z k h8]; exact HO2.out, HB2.out⟩
      case measure => simp [intOf]; omega
    · have h0 : ¬ (0 : Int) ≤ 7 - (k : Int) := by omega
      obtain rfl : k = 8 := by omega
      go_wp2
      go_ret
      exact ⟨_, rfl, HO1.out, HB1.out⟩

set_option maxHeartbeats 400000 in
theorem refTxt_any (v : Value) (xs : List UInt8) (s : ByteArray) (w : World) (hb : Bs w v xs) (hN : xs.length ≤ 100000) (hs : s.size ≤ 10000) :
    Calls Try.prog 22 #[v, .string s] w fun e w' => ∃ v', e = .returned v' ∧ Bs w' v' (xs ++ Pk.txt s.data.toList) ∧ Below w.heap.size w w' := by
  have HS : Hid (Bs w v xs) := hb
  have HN : Hid (xs.length ≤ 100000) := hN
  clear hb hN
  go_enter Try.func22, Try.ntmps22
  go_wp2_with fail
  refine (refI64_any v xs _ _ HS.out HN.out).mono ?_
  rintro e w1 ⟨v1, rfl, hown, hb⟩
  have HO : Hid (w1.ownsRow w.heap.size 5 1 v1 (xs.length + 8) (bc (xs ++ Pk.be8 s.size))) := hown
  have HB : Hid (Below w.heap.size w w1) := hb
  clear hown hb
  go_wp2_with (at_builtin; refine append_text rfl _ _ rfl w.heap.size v1 _ _ rfl _ HO.out HB.out.size s rfl (by have := HN.out; omega) ?_)
  intro v2 w2 hown hb
  have HO2 : Hid (Bs w2 v2 (xs ++ Pk.txt s.data.toList)) := by
    have h := Bs.own hown
    first | exact h | (rw [List.append_assoc] at h; exact h)
  have HB2 : Hid (Below w.heap.size w w2) := HB.out.trans hb
  clear hown hb
  go_wp2
  go_ret
  exact ⟨_, rfl, HO2.out, HB2.out⟩

theorem refI64_bs (v : Value) (xs : List UInt8) (z : Int) (w : World) (hb : Bs w v xs) (hN : xs.length ≤ 100000) :
    Calls Try.prog 23 #[v, .int .i64 z] w fun e w' => ∃ v', e = .returned v' ∧ Bs w' v' (xs ++ Pk.be8 z) ∧ Below w.heap.size w w' := by
  refine (refI64_any v xs z w hb hN).mono ?_
  rintro e w' ⟨v', rfl, ho, hb⟩
  exact ⟨v', rfl, Bs.own ho, hb⟩

/-- Bytes that are there lie at a plain address. -/
theorem Bs.plain {w : World} {v : Value} {xs : List UInt8} (h : Bs w v xs) (h0 : 0 < xs.length) : ∃ g o n c, v = .slice (some ⟨g, o, none⟩) n c ∧ n = xs.length ∧ n ≤ c ∧ ∀ (j : Nat) x, xs[j]? = some x → w.cell? ⟨g, o + j, none⟩ = some (.int .u8 (x.toNat : Int)) := by
  obtain ⟨ao, n, c, rfl, hn, hs⟩ := h
  cases ao with
  | none => have := (hs.nil rfl).1; omega
  | some ad =>
    obtain ⟨b, off, spot⟩ := ad
    have hc0 := hs.cells _ rfl 0 (.int .u8 ((xs[0]).toNat : Int)) (by simp [bc, List.getElem?_eq_getElem h0])
    have hspot : spot = none := by simpa [Addr.add] using World.cell?_spot hc0
    subst hspot
    refine ⟨b, off, n, c, rfl, hn, by rw [hn]; exact hs.cap, fun j x hx => ?_⟩
    have := hs.cells _ rfl j (.int .u8 (x.toNat : Int)) (by simp [bc, hx])
    rwa [Addr.add_lit] at this

theorem bs_of_plain {w : World} {g o n c : Nat} {xs : List UInt8} (hn : n = xs.length) (hc : n ≤ c) (h : ∀ (j : Nat) x, xs[j]? = some x → w.cell? ⟨g, o + j, none⟩ = some (.int .u8 (x.toNat : Int))) : Bs w (.slice (some ⟨g, o, none⟩) n c) xs := by
  refine ⟨_, n, c, rfl, hn, by omega, fun e => by (cases e), fun ad had j u hu => ?_⟩
  obtain rfl := Option.some.inj had
  rw [Addr.add_lit]
  unfold bc at hu
  rw [List.getElem?_map] at hu
  obtain ⟨x, hx, rfl⟩ := Option.map_eq_some_iff.1 hu
  exact h j x hx
end Go.Proofs.Yteloehalobampaa
