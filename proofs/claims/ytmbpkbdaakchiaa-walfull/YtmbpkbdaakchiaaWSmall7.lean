/- What the disk's small calls answer: Clone, first, good, may. -/
import Derived.Test.YtmbpkbdaakchiaaDk7
import Derived.Test.YtmbpkbdaakchiaaShelf
import Derived.Lib.ConvBytes
import Derived.Lib.SliceRun
import Derived.BigQuiet
namespace Go.Proofs.Ytmbpkbdaakchiaa
open Go.RowKit

/-- 'append([]byte{}, b...)', of many bytes. -/
theorem append_copy7 {ops : Array Oper} {rest : List Oper} {o : Oper} {a : Act} {Q : Exit → Act → World → Prop} (hgd : o.guard = none) (s x : Operand)
    (ho : o.op = .call { callee := .builtin .append, args := #[s, x], argTypes := #[31, 31] })
    (v : Value) (xs : List UInt8) (w0 : World) (hs : a.eval s = .slice (some ⟨w0.heap.size, 0, none⟩) 0 0) (hx : a.eval x = v) (hb : Bs w0 v xs) (hN : xs.length ≤ 100000000)
    (h : ∀ v' w', w'.ownsRow w0.heap.size 5 1 v' xs.length (bc xs) → Below w0.heap.size w0 w' → wpList Try.prog ops Q rest (a.put o.dst v') w') : wpList Try.prog ops Q (o :: rest) a (w0.alloc (.cells #[] 5)) := by
  have hown : (w0.alloc (.cells #[] 5)).ownsRow w0.heap.size 5 1 (.slice (some ⟨w0.heap.size, 0, none⟩) 0 0) 0 (bc []) := World.ownsRow_made w0 #[] 0 (Nat.le_refl _) (by decide) rfl
  have hal : Below w0.heap.size w0 (w0.alloc (.cells #[] 5)) := (Below.refl _ w0).alloc (Nat.le_refl _) _
  refine append_bs hgd s x ho w0.heap.size _ v 0 [] xs _ hs hx hown (by simp) (hb.below hal) (by omega) ?_
  intro v' w' h1 h2
  refine h v' w' (by simpa using h1) (hal.trans h2)

set_option maxRecDepth 20000 in
set_option maxHeartbeats 1000000 in
/-- bytes.Clone. -/
theorem clone_any7 (v : Value) (xs : List UInt8) (w : World) (hb : Bs w v xs) (hN : xs.length ≤ 100000000) :
    Calls Try.prog 30 #[v] w fun e w' => ∃ v', e = .returned v' ∧ w'.ownsRow w.heap.size 5 1 v' xs.length (bc xs) ∧ Below w.heap.size w w' := by
  obtain ⟨ao, n, c, rfl, hn, hsl⟩ := hb
  cases ao with
  | none =>
    obtain ⟨h0, rfl⟩ := hsl.nil rfl
    obtain rfl : xs = [] := List.length_eq_zero_iff.1 h0
    obtain rfl : n = 0 := hn
    clear hsl
    have hq : ∀ W : World, (binOp .eql 31 (.slice none 0 0) (.slice none 0 0)).run Try.prog W = .ok (.bool true) W := fun W => Lib.run_eql_slice_nil W _ _ none 0 0 0 0 Try.underlying31
    go_enter Try.func30, Try.ntmps30
    go_wp2
    go_ret
    exact ⟨_, rfl, World.ownsRow_nil w _ _ _, Below.refl _ _⟩
  | some ad =>
    have HB : Hid (Bs w (.slice (some ad) n c) xs) := ⟨_, _, _, rfl, hn, hsl⟩
    clear hsl hn
    have hq : ∀ W : World, (binOp .eql 31 (.slice (some ad) n c) (.slice none 0 0)).run Try.prog W = .ok (.bool false) W := fun W => Lib.run_eql_slice_nil W _ _ (some ad) n c 0 0 Try.underlying31
    go_enter Try.func30, Try.ntmps30
    go_wp2_with (at_builtin; refine append_copy7 rfl _ _ rfl (.slice (some ad) n c) xs w rfl rfl HB.out hN ?_)
    intro v' w' h1 h2
    have HX : Hid (w'.ownsRow w.heap.size 5 1 v' xs.length (bc xs) ∧ Below w.heap.size w w') := ⟨h1, h2⟩
    obtain ⟨a1, c1, rfl, _⟩ := row_slice h1
    clear h1 h2
    go_wp2
    go_ret
    exact ⟨_, rfl, HX.out⟩

set_option maxRecDepth 20000 in
set_option maxHeartbeats 1000000 in
/-- strings.Clone. -/
theorem sclone_any7 (s : ByteArray) (w : World) (hs : s.size ≤ 281474976710656) :
    Calls Try.prog 48 #[.string s] w fun e w' => e = .returned (.string s) ∧ Below w.heap.size w w' := by
  go_enter Try.func48, Try.ntmps48
  go_wp2_with fail
  refine (Try.stringslite_Clone s w hs).mono ?_
  rintro e w' ⟨rfl, hb⟩
  have HB : Hid (Below w.heap.size w w') := hb
  clear hb
  go_wp2
  go_ret
  exact ⟨rfl, HB.out⟩

/-- '[]byte(s)'. -/
theorem conv_bytes7 (s : ByteArray) (w : World) : ∃ cap w', (convert 9 31 (.string s)).run Try.prog w = .ok (.slice (some ⟨w.heap.size, 0, none⟩) s.size cap) w' ∧ Below w.heap.size w w' ∧ s.size ≤ cap ∧ ∀ (k : Nat) (hk : k < s.size), w'.cell? ⟨w.heap.size, k, none⟩ = some (.int .u8 (s[k].toNat : Int)) := by
  refine ⟨_, _, Lib.run_convert_string_bytes w 9 31 5 s Try.underlying9 Try.underlying31 Try.underlying5, ⟨rfl, rfl, rfl, ?_, fun k hk => Lib.bytesWorld_at_old w _ s k hk⟩, grownCap_ge w s.size 0 _, fun k hk => ?_⟩
  · rw [Lib.bytesWorld_size]
    omega
  · rw [Lib.bytesWorld_cell w _ s k hk]
    have e : s.data.toList.getD k 0 = s[k] := by
      rw [List.getD_eq_getElem?_getD, List.getElem?_eq_getElem (by simpa using hk)]
      rfl
    rw [e]

set_option maxRecDepth 20000 in
set_option maxHeartbeats 1000000 in
theorem good_any7 (s : ByteArray) (w : World) :
    Calls Try.prog 54 #[.string s] w fun e w' => e = .returned (.bool (Dq.may s)) ∧ Below w.heap.size w w' := by
  by_cases h1 : (s.size : Int) < 1
  · have HF : Hid (Dq.may s = false) := by
      have h : Dq.may s = false := by unfold Dq.may; rw [decide_eq_false (by omega)]; rfl
      exact h
    go_enter Try.func54, Try.ntmps54
    go_wp2
    go_ret
    rw [HF.out]
    exact ⟨rfl, Below.refl _ _⟩
  by_cases h2 : 20 < (s.size : Int)
  · have HF : Hid (Dq.may s = false) := by
      have h : Dq.may s = false := by unfold Dq.may; rw [decide_eq_false (p := s.size ≤ 20) (by omega)]; simp
      exact h
    go_enter Try.func54, Try.ntmps54
    go_wp2
    go_ret
    rw [HF.out]
    exact ⟨rfl, Below.refl _ _⟩
  obtain ⟨r, hr⟩ : ∃ r, r = Dq.may s := ⟨_, rfl⟩
  rw [← hr]
  have hr2 : Dq.may s = s.data.toList.all fun c => decide (33 ≤ c.toNat) && decide (c.toNat ≤ 126) := by
    unfold Dq.may
    rw [decide_eq_true (by omega : 1 ≤ s.size), decide_eq_true (by omega : s.size ≤ 20)]
    rfl
  rw [hr2] at hr
  have HR : Hid (r = s.data.toList.all fun c => decide (33 ≤ c.toNat) && decide (c.toNat ≤ 126)) := hr
  clear hr hr2
  obtain ⟨cap, w1, hcv, hb1, hcap, hce⟩ := conv_bytes7 s w
  have HB : Hid (Below w.heap.size w w1) := hb1
  obtain ⟨g, hg⟩ : ∃ z, z = w.heap.size := ⟨_, rfl⟩
  rw [← hg] at hcv hce
  clear hb1 hg
  go_enter Try.func54, Try.ntmps54
  go_wp2
  go_loopw [16] (fun i wr => ∃ k : Nat, k ≤ s.size ∧ i = .int .i64 k ∧ ((s.data.toList.take k).all fun c => decide (33 ≤ c.toNat) && decide (c.toNat ≤ 126)) = true ∧ wr = w1) (fun i _ => s.size - (intOf i).toNat)
  case atStart => exact ⟨0, Nat.zero_le _, rfl, rfl, rfl⟩
  case round =>
    obtain ⟨k, hk, rfl, hall, hw⟩ := hrel
    subst hw
    have HA : Hid (((s.data.toList.take k).all fun c => decide (33 ≤ c.toNat) && decide (c.toNat ≤ 126)) = true) := hall
    clear hall
    by_cases hlt : k < s.size
    · have hts : s.data.toList.take (k + 1) = s.data.toList.take k ++ [s[k]] := by rw [List.take_succ_eq_append_getElem (by simpa using hlt)]; rfl
      have HS : Hid (s.data.toList.take (k + 1) = s.data.toList.take k ++ [s[k]]) := hts
      have HM : Hid (s[k] ∈ s.data.toList) := List.mem_of_mem_take (i := k + 1) (by rw [hts]; simp)
      clear hts
      have hlt' : (k : Int) < s.size := by omega
      have hk0 : (0 : Int) ≤ (k : Int) := by omega
      have hc := hce k hlt
      obtain ⟨b, hb⟩ : ∃ b, b = s[k] := ⟨_, rfl⟩
      rw [← hb] at hc HS HM
      clear hb hce hcv
      by_cases b1 : (b.toNat : Int) < 33
      · have HF : Hid (r = false) := by
          have h : r = false := by
            rw [HR.out]
            exact List.all_eq_false.2 ⟨b, HM.out, by simp; omega⟩
          exact h
        go_wp2
        go_ret
        rw [HF.out]
        exact ⟨rfl, HB.out⟩
      by_cases b2 : 126 < (b.toNat : Int)
      · have HF : Hid (r = false) := by
          have h : r = false := by
            rw [HR.out]
            exact List.all_eq_false.2 ⟨b, HM.out, by simp; omega⟩
          exact h
        go_wp2
        go_ret
        rw [HF.out]
        exact ⟨rfl, HB.out⟩
      have HA2 : Hid (((s.data.toList.take (k + 1)).all fun c => decide (33 ≤ c.toNat) && decide (c.toNat ≤ 126)) = true) := by
        have h : ((s.data.toList.take (k + 1)).all fun c => decide (33 ≤ c.toNat) && decide (c.toNat ≤ 126)) = true := by
          rw [HS.out, List.all_append, HA.out]
          simp
          omega
        exact h
      go_wp2
      go_roundw
      case rel => exact ⟨k + 1, by omega, by go_num, HA2.out, trivial⟩
      case measure => simp [intOf]; omega
    · have hlt' : ¬ (k : Int) < s.size := by omega
      have HT : Hid (r = true) := by
        have h : r = true := by
          have h2 := HA.out
          rw [List.take_of_length_le (by simp; omega)] at h2
          rw [HR.out, h2]
        exact h
      clear hce hcv
      go_wp2
      go_ret
      rw [HT.out]
      exact ⟨rfl, HB.out⟩

/-- What a call of a file is told ahead of the file itself. -/
def may7 (st : Dq.St) (s : ByteArray) : Int := if st.off then 10 else if Dq.may s = false then 1 else 0

set_option maxRecDepth 20000 in
set_option maxHeartbeats 1000000 in
theorem dmay_any7 {w : World} {q m u : Nat} {st : Dq.St} {G : Nat → Prop} {D : DataW Nat} {P : ByteArray → Nat} {V : ByteArray → Value} (s : ByteArray) (h : DkU w q st G m D P V u) :
    Calls Try.prog 47 #[dptr q, .string s] w fun e w' => e = .returned (.int .i64 (may7 st s)) ∧ Below w.heap.size w w' := by
  have c3 := h.blk.cell 3
  have HG := good_any7 s w
  clear h
  simp only [List.getElem?_cons_succ, List.getElem?_cons_zero] at c3
  cases ho : st.off with
  | true =>
    have HX : Hid (may7 st s = 10) := by
      have h : may7 st s = 10 := by unfold may7; rw [ho]; rfl
      exact h
    rw [HX.out]
    rw [ho] at c3
    clear ho HG
    go_enter Try.func47, Try.ntmps47
    go_wp2
    go_ret
    exact ⟨rfl, Below.refl _ _⟩
  | false =>
    rw [ho] at c3
    cases hm : Dq.may s with
    | true =>
      have HX : Hid (may7 st s = 0) := by
        have h : may7 st s = 0 := by unfold may7; rw [ho, hm]; rfl
        exact h
      rw [HX.out]
      rw [hm] at HG
      have HG2 : Hid (Calls Try.prog 54 #[.string s] w fun e w' => e = .returned (.bool true) ∧ Below w.heap.size w w') := HG
      clear ho HG hm
      go_enter Try.func47, Try.ntmps47
      go_wp2_with fail
      refine HG2.out.mono ?_
      rintro e w' ⟨rfl, hb⟩
      have HB : Hid (Below w.heap.size w w') := hb
      clear hb
      go_wp2
      go_ret
      exact ⟨rfl, HB.out⟩
    | false =>
      have HX : Hid (may7 st s = 1) := by
        have h : may7 st s = 1 := by unfold may7; rw [ho, hm]; rfl
        exact h
      rw [HX.out]
      rw [hm] at HG
      have HG2 : Hid (Calls Try.prog 54 #[.string s] w fun e w' => e = .returned (.bool false) ∧ Below w.heap.size w w') := HG
      clear ho HG hm
      go_enter Try.func47, Try.ntmps47
      go_wp2_with fail
      refine HG2.out.mono ?_
      rintro e w' ⟨rfl, hb⟩
      have HB : Hid (Below w.heap.size w w') := hb
      clear hb
      go_wp2
      go_ret
      exact ⟨rfl, HB.out⟩
end Go.Proofs.Ytmbpkbdaakchiaa
