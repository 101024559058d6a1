/- What a Reader's I64, Count, Text, End and Bad answer. -/
import Derived.Test.YtcpajjjkhikipaaDoorPwRead
import Derived.Laws.BitsAllLaws
namespace Go.Proofs.YtcpajjjkhikipaaDoor.Pw
open Go.RowKit

theorem val_step (ys : List UInt8) (j : Nat) (x : UInt8) (t : Nat) (hx : ys[j]? = some x) (ht : t = Pk.val (ys.take j)) (hj : j < 8) :
    bits .or .u64 (IntKind.u64.wrap ((t : Int) * 256)) (IntKind.u64.wrap (x.toNat : Int)) = (Pk.val (ys.take (j + 1)) : Int) := by
  have h1 := Pk.val_lt (ys.take j)
  rw [← ht] at h1
  have h2 : 256 ^ (ys.take j).length ≤ 256 ^ 7 := Nat.pow_le_pow_right (by decide) (by rw [List.length_take]; omega)
  have h3 : t < 72057594037927936 := by have : (256 : Nat) ^ 7 = 72057594037927936 := by decide
                                        omega
  have h4 := x.toNat_lt
  have e1 : IntKind.u64.wrap ((t : Int) * 256) = ((t * 256 : Nat) : Int) := by rw [IntKind.wrap_u64]; omega
  have e2 : IntKind.u64.wrap (x.toNat : Int) = ((x.toNat : Nat) : Int) := by rw [IntKind.wrap_u64]; omega
  rw [e1, e2, u64_or_nat _ _ (by omega) (by omega), Pk.or_byte _ _ (by omega), List.take_add_one, hx]
  show _ = (Pk.val (ys.take j ++ [x]) : Int)
  rw [Pk.val_snoc, ← ht]

theorem val8_lt (ys : List UInt8) (h : ys.length = 8) : Pk.val ys < 18446744073709551616 := by
  have h1 := Pk.val_lt ys
  rw [h] at h1
  exact h1

theorem wrap_sgn (t : Nat) (h : t < 18446744073709551616) : wrap64 (t : Int) = Pk.sgn t := by
  unfold wrap64 Pk.sgn
  split <;> omega

set_option maxRecDepth 20000 in
set_option maxHeartbeats 400000 in
theorem rI64_yes (q : Nat) (xs : List UInt8) (bad : Bool) (w : World) (hR : Rd w q xs bad) (hn : 8 ≤ xs.length) :
    Calls Tryd.prog 16 #[.pointer (some ⟨q, 0, none⟩)] w fun e w' => e = .returned (.int .i64 (Pk.sgn (Pk.val (xs.take 8)))) ∧ Rd w' q (xs.drop 8) bad ∧ w.grownBy w' (some q) := by
  have HR : Hid (Rd w q xs bad) := hR
  have HN : Hid (8 ≤ xs.length) := hn
  obtain ⟨ys, hys⟩ : ∃ ys, ys = xs.take 8 := ⟨_, rfl⟩
  rw [← hys]
  have HY : Hid (ys = xs.take 8) := hys
  clear hR hn hys
  go_enter Tryd.func16, Tryd.ntmps16
  go_wp2_with fail
  refine (take_yes q 8 _ xs bad _ rfl HR.out HN.out).mono ?_
  rintro e w1 ⟨v, rfl, hcut, hr, hg⟩
  have HR1 : Hid (Rd w1 q (xs.drop 8) bad) := hr
  have HG1 : Hid (w.grownBy w1 (some q)) := hg
  have hlen : (xs.take 8).length = 8 := by rw [List.length_take]; have := HN.out; omega
  rw [← HY.out] at hcut hlen
  have HL : Hid (ys.length = 8) := hlen
  rcases hcut.ex with ⟨_, he⟩ | ⟨g, o, c, hv, hcs⟩
  · rw [he] at hlen; cases hlen
  rw [hlen] at hv
  have HC : Hid (∀ (j : Nat) x, ys[j]? = some x → w1.cell? ⟨g, o + j, none⟩ = some (.int .u8 (x.toNat : Int))) := hcs
  subst hv
  clear hr hg hcut hlen hcs HR HN
  go_wp2
  go_loop [3, 9] (fun u i => ∃ j : Nat, j ≤ 8 ∧ i = .int .i64 j ∧ u = .int .u64 (Pk.val (ys.take j))) (fun _ i => 8 - (intOf i).toNat)
  case atStart => exact ⟨0, by omega, rfl, rfl⟩
  case round =>
    obtain ⟨j, hj, rfl, rfl⟩ := hrel
    obtain ⟨t, ht⟩ : ∃ t, t = Pk.val (ys.take j) := ⟨_, rfl⟩
    rw [← ht]
    have HT : Hid (t = Pk.val (ys.take j)) := ht
    clear ht
    by_cases hlt : j < 8
    · obtain ⟨x, hx⟩ : ∃ x, ys[j]? = some x := ⟨ys[j]'(by rw [HL.out]; exact hlt), List.getElem?_eq_getElem _⟩
      have hcell := HC.out j x hx
      have HX : Hid (ys[j]? = some x) := hx
      clear hx
      have hlt' : (j : Int) < 8 := by omega
      go_wp2
      go_round
      case rel =>
        exact ⟨j + 1, by omega, by go_num, by rw [val_step ys j x t HX.out HT.out hlt]⟩
      case measure => simp [intOf]; omega
    · have hlt' : ¬ (j : Int) < 8 := by omega
      have h8 : t = Pk.val ys := by rw [HT.out, List.take_of_length_le (by rw [HL.out]; omega)]
      have HW : Hid (wrap64 (t : Int) = Pk.sgn (Pk.val ys)) := by rw [h8]; exact wrap_sgn _ (val8_lt ys HL.out)
      clear h8
      go_wp2
      go_ret
      refine ⟨?_, HR1.out, HG1.out⟩
      rw [← HW.out]
      rfl

set_option maxRecDepth 20000 in
set_option maxHeartbeats 400000 in
theorem rI64_no (q : Nat) (xs : List UInt8) (bad : Bool) (w : World) (hR : Rd w q xs bad) (hn : xs.length < 8) :
    Calls Tryd.prog 16 #[.pointer (some ⟨q, 0, none⟩)] w fun e w' => e = .returned (.int .i64 0) ∧ Rd w' q [] true ∧ w.grownBy w' (some q) := by
  have HR : Hid (Rd w q xs bad) := hR
  have HN : Hid (xs.length < 8) := hn
  clear hR hn
  go_enter Tryd.func16, Tryd.ntmps16
  go_wp2_with fail
  refine (take_no q 8 _ xs bad _ rfl HR.out HN.out).mono ?_
  rintro e w1 ⟨rfl, hr, hg⟩
  have HR1 : Hid (Rd w1 q [] true) := hr
  have HG1 : Hid (w.grownBy w1 (some q)) := hg
  clear hr hg HR HN
  go_wp2
  go_loop [3, 9] (fun u i => i = .int .i64 0 ∧ u = .int .u64 0) (fun _ _ => 0)
  case atStart => exact ⟨rfl, rfl⟩
  case round =>
    obtain ⟨rfl, rfl⟩ := hrel
    go_wp2
    go_ret
    exact ⟨rfl, HR1.out, HG1.out⟩

theorem rI64_any (q : Nat) (xs : List UInt8) (bad : Bool) (w : World) (hR : Rd w q xs bad) :
    Calls Tryd.prog 16 #[.pointer (some ⟨q, 0, none⟩)] w fun e w' => e = .returned (.int .i64 (Pk.rI xs bad).1) ∧ Rd w' q (Pk.rI xs bad).2.1 (Pk.rI xs bad).2.2 ∧ w.grownBy w' (some q) := by
  unfold Pk.rI
  by_cases h : 8 ≤ xs.length
  · rw [if_pos h]; exact rI64_yes q xs bad w hR h
  · rw [if_neg h]; exact rI64_no q xs bad w hR (by omega)

set_option maxRecDepth 20000 in
set_option maxHeartbeats 400000 in
theorem rCount_any (q : Nat) (m : Int) (xs : List UInt8) (bad : Bool) (w : World) (hR : Rd w q xs bad) :
    Calls Tryd.prog 17 #[.pointer (some ⟨q, 0, none⟩), .int .i64 m] w fun e w' => e = .returned (.int .i64 (Pk.rC m xs bad).1) ∧ Rd w' q (Pk.rC m xs bad).2.1 (Pk.rC m xs bad).2.2 ∧ w.grownBy w' (some q) := by
  have HR : Hid (Rd w q xs bad) := hR
  clear hR
  unfold Pk.rC
  obtain ⟨z, hz⟩ : ∃ z, z = (Pk.rI xs bad).1 := ⟨_, rfl⟩
  have HZ : Hid (z = (Pk.rI xs bad).1) := hz
  by_cases h1 : z < 0
  · rw [if_pos (by rw [← hz]; exact Or.inl h1)]
    clear hz
    go_enter Tryd.func17, Tryd.ntmps17
    go_wp2_with fail
    refine (rI64_any q xs bad _ HR.out).mono ?_
    rintro e w1 ⟨rfl, hr, hg⟩
    rw [← HZ.out]
    have HR1 : Hid (Rd w1 q (Pk.rI xs bad).2.1 (Pk.rI xs bad).2.2) := hr
    have HG1 : Hid (w.grownBy w1 (some q)) := hg
    clear hr hg
    go_wp2_with fail
    refine (spoil_any q _ _ _ HR1.out).mono ?_
    rintro e w2 ⟨rfl, hr, hg⟩
    have HR2 : Hid (Rd w2 q [] true) := hr
    have HG2 : Hid (w.grownBy w2 (some q)) := grownBy_trans HG1.out hg
    clear hr hg
    go_wp2
    go_ret
    exact ⟨rfl, HR2.out, HG2.out⟩
  by_cases h2 : m < z
  · rw [if_pos (by rw [← hz]; exact Or.inr h2)]
    clear hz
    go_enter Tryd.func17, Tryd.ntmps17
    go_wp2_with fail
    refine (rI64_any q xs bad _ HR.out).mono ?_
    rintro e w1 ⟨rfl, hr, hg⟩
    rw [← HZ.out]
    have HR1 : Hid (Rd w1 q (Pk.rI xs bad).2.1 (Pk.rI xs bad).2.2) := hr
    have HG1 : Hid (w.grownBy w1 (some q)) := hg
    clear hr hg
    go_wp2_with fail
    refine (spoil_any q _ _ _ HR1.out).mono ?_
    rintro e w2 ⟨rfl, hr, hg⟩
    have HR2 : Hid (Rd w2 q [] true) := hr
    have HG2 : Hid (w.grownBy w2 (some q)) := grownBy_trans HG1.out hg
    clear hr hg
    go_wp2
    go_ret
    exact ⟨rfl, HR2.out, HG2.out⟩
  · rw [if_neg (by rw [← hz]; exact fun h => h.elim h1 h2)]
    rw [← hz]
    clear hz
    go_enter Tryd.func17, Tryd.ntmps17
    go_wp2_with fail
    refine (rI64_any q xs bad _ HR.out).mono ?_
    rintro e w1 ⟨rfl, hr, hg⟩
    rw [← HZ.out]
    have HR1 : Hid (Rd w1 q (Pk.rI xs bad).2.1 (Pk.rI xs bad).2.2) := hr
    have HG1 : Hid (w.grownBy w1 (some q)) := hg
    clear hr hg
    go_wp2
    go_ret
    exact ⟨rfl, HR1.out, HG1.out⟩

/-- 'string(b)' of bytes that were handed out. -/
theorem Cut.conv {w : World} {v : Value} {xs : List UInt8} (h : Cut w v xs) : (convert 31 9 v).run Tryd.prog w = .ok (.string ⟨xs.toArray⟩) w := by
  rcases h.ex with ⟨rfl, rfl⟩ | ⟨g, o, c, rfl, hcs⟩
  · exact run_convert_bytes_nil w 31 5 Tryd.underlying31 Tryd.underlying5 0 0 9 Tryd.underlying9
  · exact run_convert_bytes_back (P := Tryd.prog) w 31 9 5 ⟨g, o, none⟩ c xs Tryd.underlying31 Tryd.underlying5 Tryd.underlying9 (fun j hj => by rw [Addr.add_lit]; exact hcs j _ (List.getElem?_eq_getElem hj))

set_option maxRecDepth 20000 in
set_option maxHeartbeats 400000 in
theorem rText_any (q : Nat) (m : Int) (xs : List UInt8) (bad : Bool) (w : World) (hR : Rd w q xs bad) :
    Calls Tryd.prog 32 #[.pointer (some ⟨q, 0, none⟩), .int .i64 m] w fun e w' => e = .returned (.string ⟨(Pk.rT m xs bad).1.toArray⟩) ∧ Rd w' q (Pk.rT m xs bad).2.1 (Pk.rT m xs bad).2.2 ∧ w.grownBy w' (some q) := by
  have HR : Hid (Rd w q xs bad) := hR
  clear hR
  unfold Pk.rT
  obtain ⟨z, hz⟩ : ∃ z, z = (Pk.rC m xs bad).1 := ⟨_, rfl⟩
  have HZ : Hid (z = (Pk.rC m xs bad).1) := hz
  have hz0 : 0 ≤ z := by rw [hz]; exact Pk.rC_nonneg m xs bad
  obtain ⟨n, hn⟩ : ∃ n, n = z.toNat := ⟨_, rfl⟩
  have HN : Hid (z = (n : Int)) := by have h : z = (n : Int) := by omega
                                      exact h
  rw [← hz, ← hn]
  clear hz hz0 hn
  by_cases h : n ≤ (Pk.rC m xs bad).2.1.length
  · rw [if_pos h]
    have HL : Hid (n ≤ (Pk.rC m xs bad).2.1.length) := h
    clear h
    obtain ⟨ys, hys⟩ : ∃ ys, ys = (Pk.rC m xs bad).2.1.take n := ⟨_, rfl⟩
    rw [← hys]
    have HY : Hid (ys = (Pk.rC m xs bad).2.1.take n) := hys
    clear hys
    go_enter Tryd.func32, Tryd.ntmps32
    go_wp2_with fail
    refine (rCount_any q m xs bad _ HR.out).mono ?_
    rintro e w1 ⟨rfl, hr, hg⟩
    rw [← HZ.out]
    have HR1 : Hid (Rd w1 q (Pk.rC m xs bad).2.1 (Pk.rC m xs bad).2.2) := hr
    have HG1 : Hid (w.grownBy w1 (some q)) := hg
    clear hr hg
    go_wp2_with fail
    refine (take_yes q n _ _ _ _ HN.out HR1.out HL.out).mono ?_
    rintro e w2 ⟨v, rfl, hcut, hr, hg⟩
    rw [← HY.out] at hcut
    have hcv := hcut.conv
    have HR2 : Hid (Rd w2 q ((Pk.rC m xs bad).2.1.drop n) (Pk.rC m xs bad).2.2) := hr
    have HG2 : Hid (w.grownBy w2 (some q)) := grownBy_trans HG1.out hg
    clear hr hg hcut
    go_wp2
    go_ret
    exact ⟨rfl, HR2.out, HG2.out⟩
  · rw [if_neg h]
    have HL : Hid ((Pk.rC m xs bad).2.1.length < n) := by have : (Pk.rC m xs bad).2.1.length < n := by omega
                                                          exact this
    clear h
    have hcv := fun w => Cut.conv (w := w) (v := .slice none 0 0) (xs := []) ⟨Or.inl ⟨rfl, rfl⟩⟩
    go_enter Tryd.func32, Tryd.ntmps32
    go_wp2_with fail
    refine (rCount_any q m xs bad _ HR.out).mono ?_
    rintro e w1 ⟨rfl, hr, hg⟩
    rw [← HZ.out]
    have HR1 : Hid (Rd w1 q (Pk.rC m xs bad).2.1 (Pk.rC m xs bad).2.2) := hr
    have HG1 : Hid (w.grownBy w1 (some q)) := hg
    clear hr hg
    go_wp2_with fail
    refine (take_no q n _ _ _ _ HN.out HR1.out HL.out).mono ?_
    rintro e w2 ⟨rfl, hr, hg⟩
    have HR2 : Hid (Rd w2 q [] true) := hr
    have HG2 : Hid (w.grownBy w2 (some q)) := grownBy_trans HG1.out hg
    clear hr hg
    go_wp2
    go_ret
    exact ⟨rfl, HR2.out, HG2.out⟩


set_option maxRecDepth 20000 in
set_option maxHeartbeats 400000 in
theorem rEnd_any (q : Nat) (xs : List UInt8) (bad : Bool) (w : World) (hR : Rd w q xs bad) :
    Calls Tryd.prog 19 #[.pointer (some ⟨q, 0, none⟩)] w fun e w' => e = .returned (.bool (!bad && xs.isEmpty)) ∧ w' = w := by
  have hc1 := hR.c1
  obtain ⟨v, hc0, hl⟩ := hR.ex
  clear hR
  cases bad with
  | true =>
    clear hl
    go_enter Tryd.func19, Tryd.ntmps19
    go_wp2
    go_ret
    exact ⟨rfl, rfl⟩
  | false =>
    obtain ⟨r, hr⟩ : ∃ r, r = xs.isEmpty := ⟨_, rfl⟩
    rw [← hr]
    rcases hl with ⟨rfl, rfl⟩ | ⟨g, o, c, rfl, -, -, -⟩
    · subst hr
      go_enter Tryd.func19, Tryd.ntmps19
      go_wp2
      go_ret
      exact ⟨rfl, rfl⟩
    · obtain ⟨l, hl⟩ : ∃ l, l = xs.length := ⟨_, rfl⟩
      have HE : Hid (((l : Int) == 0) = r) := by
        have h : ((l : Int) == 0) = r := by
          rw [hr, hl]; cases xs with
          | nil => rfl
          | cons a t => simp; omega
        exact h
      rw [← hl] at hc0
      clear hl hr
      cases h0 : ((l : Int) == 0) with
      | true =>
        obtain rfl : r = true := by rw [← HE.out]; exact h0
        clear HE
        go_enter Tryd.func19, Tryd.ntmps19
        go_wp2
        go_ret
        exact ⟨rfl, rfl⟩
      | false =>
        obtain rfl : r = false := by rw [← HE.out]; exact h0
        clear HE
        go_enter Tryd.func19, Tryd.ntmps19
        go_wp2
        go_ret
        exact ⟨rfl, rfl⟩

end Go.Proofs.YtcpajjjkhikipaaDoor.Pw
