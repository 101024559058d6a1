/- What pack.grown and pack.number answer: walks over their bodies. What pack.number answers. What pack.All, pack.I64 and pack.Text answer. What pack.Read and a Reader's inner calls (spoil, take) answer. What a Reader's I64, Count, Text, End and Bad answer. The calls of pack over bytes wherever they lie; 'string(b)'. -/
import Derived.Test.YtlgpjgncimcijabBase
import Derived.Test.YtlgpjgncimcijabPlain
import Derived.WalkKit
import Derived.WalkSpells
import Derived.WalkLawsBesides
import Derived.OwnWalk
import Derived.Lib.BufSteps
import Derived.Laws.AppendOwnNone
import Derived.Deep.Onto
import Derived.Laws.BitsAllLaws
namespace Go.Proofs.Ytlgpjgncimcijab.Pw
open Go.RowKit

set_option maxRecDepth 20000 in
set_option maxHeartbeats 400000 in
theorem grown_any (ao : Option Addr) (n c m : Nat) (mi : Int) (xs : List UInt8) (w : World) (hm : mi = m) (hn : n = xs.length) (hS : Sl w ao c xs) (hN : n + m ≤ 1000000) :
    Calls Try.prog 22 #[.slice ao n c, .int .i64 mi] w fun e w' => e = .returned (.slice (some ⟨w.heap.size, 0, none⟩) n (n + m)) ∧ w'.ownsRow w.heap.size 5 1 (.slice (some ⟨w.heap.size, 0, none⟩) n (n + m)) n (bc xs) ∧ Below w.heap.size w w' := by
  obtain ⟨i0, hi, hz0, hz1, hz2⟩ := info_parts infoByte
  have HN : Hid (n = xs.length) := hn
  have HS : Hid (Sl w ao c xs) := hS
  clear hn hS
  subst hm
  go_enter Try.func22, Try.ntmps22
  go_wp2_with (at_make; refine wpList_make_own _ rfl _ _ 35 rfl w.heap.size 5 i0 (.int .u8 0) 1 Try.underlying35 hi hz0 hz1 .i64 .i64 _ (n + m) rfl rfl (by omega) ?b1 ?b2 ?b3 ?_)
  case b1 => rw [hz2]; omega
  case b2 => unfold maxLen; omega
  case b3 => exact Nat.le_refl _
  intro w1 hown hg
  have HO : Hid (w1.ownsRow w.heap.size 5 1 (.slice (some ⟨w.heap.size, 0, none⟩) 0 (n + m)) 0 []) := hown
  have HG : Hid (w.grownBy w1 none) := hg
  clear hown hg
  go_wp2_with (at_builtin; refine wpList_append_fits_any _ rfl _ _ 35 rfl w.heap.size 5 i0 1 Try.underlying35 hi hz1 _ _ _ [] rfl HO.out ao n c (bc xs) rfl ?c1 ?c2 ?c3 (bc_one xs) ?c4 ?_)
  case c1 => rw [bc_len, HN.out]; omega
  case c2 => intro h; have := HS.out.nil h; rw [HN.out]; exact this
  case c3 => intro ad had j u hu; exact HG.out.cell (HS.out.cells ad had j u hu) (by simp)
  case c4 => omega
  intro w2 hown2 hg2
  have HO2 : Hid (w2.ownsRow w.heap.size 5 1 (.slice (some ⟨w.heap.size, 0, none⟩) n (n + m)) n (bc xs)) := by
    have h : w2.ownsRow w.heap.size 5 1 (.slice (some ⟨w.heap.size, 0, none⟩) n (n + m)) n (bc xs) := by simpa using hown2
    exact h
  have HB2 : Hid (Below w.heap.size w w2) := ((Below.refl w.heap.size w).grown HG.out (Nat.le_refl _) (fun k hk => by cases hk)).grown hg2 (HG.out.size) (fun k hk => by simp at hk; omega)
  clear hown2 hg2
  go_wp2
  go_ret
  exact ⟨by simp, HO2.out, HB2.out⟩

end Go.Proofs.Ytlgpjgncimcijab.Pw
namespace Go.Proofs.Ytlgpjgncimcijab.Pw
open Go.RowKit

theorem be8_take (z : Int) (k : Nat) (h : k < 8) : (Pk.be8 z).take (k + 1) = (Pk.be8 z).take k ++ [Pk.byteAt z (56 - 8 * k)] := by
  match k, h with
  | 0, _ => rfl
  | 1, _ => rfl
  | 2, _ => rfl
  | 3, _ => rfl
  | 4, _ => rfl
  | 5, _ => rfl
  | 6, _ => rfl
  | 7, _ => rfl

set_option maxRecDepth 20000 in
set_option maxHeartbeats 400000 in
theorem number_any (B : Nat) (v : Value) (n : Nat) (xs : List UInt8) (z : Int) (w : World) (hown : w.ownsRow B 5 1 v n (bc xs)) (hB : B ≤ w.heap.size) (hN : n ≤ 1000000) :
    Calls Try.prog 23 #[v, .int .i64 z] w fun e w' => ∃ v', e = .returned v' ∧ w'.ownsRow B 5 1 v' (n + 8) (bc (xs ++ Pk.be8 z)) ∧ Below B w w' := by
  obtain ⟨i0, hi, hz0, hz1, hz2⟩ := info_parts infoByte
  have HO : Hid (w.ownsRow B 5 1 v n (bc xs)) := hown
  clear hown
  go_enter Try.func23, Try.ntmps23
  go_wp2
  go_loopw [0, 5] (fun u i wr => ∃ k : Nat, k ≤ 8 ∧ i = .int .i64 (56 - 8 * (k : Int)) ∧ wr.ownsRow B 5 1 u (n + k) (bc (xs ++ (Pk.be8 z).take k)) ∧ Below B w wr) (fun _ i _ => (intOf i + 8).toNat)
  case atStart => exact ⟨0, by omega, rfl, by simpa using HO.out, Below.refl _ _⟩
  case round =>
    obtain ⟨k, hk, rfl, hown, hb⟩ := hrel
    have HO1 : Hid (wr.ownsRow B 5 1 u0 (n + k) (bc (xs ++ (Pk.be8 z).take k))) := hown
    have HB1 : Hid (Below B w wr) := hb
    clear hown hb
    by_cases h8 : k < 8
    · have h0 : (0 : Int) ≤ 56 - 8 * (k : Int) := by omega
      have hBw : B ≤ wr.heap.size := Nat.le_trans hB HB1.out.size
      go_wp2_with (at_builtin; refine append_byte rfl _ _ rfl B _ _ _ rfl wr _ (Pk.byteAt z (56 - 8 * k)) HO1.out hBw rfl (by omega) ?c1 ?_)
      case c1 => rw [Pk.byteAt_nat, IntKind.wrap_u64]
      intro v' w1 hown hb
      have HO2 : Hid (w1.ownsRow B 5 1 v' (n + k + 1) (bc (xs ++ ((Pk.be8 z).take k ++ [Pk.byteAt z (56 - 8 * k)])))) := by first | exact hown | (rw [← List.append_assoc]; exact hown)
      have HB2 : Hid (Below B w w1) := HB1.out.trans hb
      clear hown hb
      go_wp2
      go_roundw
      case rel => exact ⟨k + 1, by omega, by go_num, by rw [be8_take z k h8]; exact HO2.out, HB2.out⟩
      case measure => simp [intOf]; omega
    · have h0 : ¬ (0 : Int) ≤ 56 - 8 * (k : Int) := by omega
      obtain rfl : k = 8 := by omega
      go_wp2
      go_ret
      exact ⟨_, rfl, HO1.out, HB1.out⟩

end Go.Proofs.Ytlgpjgncimcijab.Pw
namespace Go.Proofs.Ytlgpjgncimcijab.Pw
open Go.RowKit

theorem flat_take (zs : List Int) (k : Nat) (z : Int) (h : zs[k]? = some z) : (zs.take (k + 1)).flatMap Pk.be8 = (zs.take k).flatMap Pk.be8 ++ Pk.be8 z := by
  rw [List.take_add_one, h]; simp

theorem flat_len (zs : List Int) : (zs.flatMap Pk.be8).length = 8 * zs.length := by
  induction zs with
  | nil => rfl
  | cons z zs ih => rw [List.flatMap_cons, List.length_append, ih]; simp [Pk.be8]; omega

set_option maxRecDepth 20000 in
set_option maxHeartbeats 400000 in
theorem all_none (ao : Option Addr) (n c : Nat) (xs : List UInt8) (av : Option Addr) (cv : Nat) (w : World) (hn : n = xs.length) (hS : Sl w ao c xs) (hN : n ≤ 200000) :
    Calls Try.prog 15 #[.slice ao n c, .slice av 0 cv] w fun e w' => ∃ v', e = .returned v' ∧ w'.ownsRow w.heap.size 5 1 v' n (bc xs) ∧ Below w.heap.size w w' := by
  have HN : Hid (n = xs.length) := hn
  have HS : Hid (Sl w ao c xs) := hS
  clear hn hS
  go_enter Try.func15, Try.ntmps15
  go_wp2_with fail
  refine (grown_any ao n c 0 _ xs _ (by simp) HN.out HS.out (by omega)).mono ?_
  rintro e w1 ⟨rfl, hown, hb⟩
  obtain ⟨v1, hv1⟩ : ∃ v1 : Value, v1 = .slice (some ⟨w.heap.size, 0, none⟩) n (n + 0) := ⟨_, rfl⟩
  rw [← hv1] at hown ⊢
  clear hv1
  have HO : Hid (w1.ownsRow w.heap.size 5 1 v1 n (bc xs)) := hown
  have HB : Hid (Below w.heap.size w w1) := hb
  clear hown hb
  go_wp2
  go_loop [5, 15] (fun u i => u = v1 ∧ i = .int .i64 0) (fun _ _ => 0)
  case atStart => exact ⟨rfl, rfl⟩
  case round =>
    obtain ⟨rfl, rfl⟩ := hrel
    go_wp2
    go_ret
    exact ⟨_, rfl, HO.out, HB.out⟩

set_option maxRecDepth 20000 in
set_option maxHeartbeats 400000 in
theorem all_some (ao : Option Addr) (n c : Nat) (xs : List UInt8) (zs : List Int) (g o k cv : Nat) (w : World) (hn : n = xs.length) (hS : Sl w ao c xs) (hk : k = zs.length) (hcells : ∀ (j : Nat) z, zs[j]? = some z → w.cell? ⟨g, o + j, none⟩ = some (.int .i64 z)) (hN : n ≤ 200000) (hK : k ≤ 10000) :
    Calls Try.prog 15 #[.slice ao n c, .slice (some ⟨g, o, none⟩) k cv] w fun e w' => ∃ v', e = .returned v' ∧ w'.ownsRow w.heap.size 5 1 v' (n + 8 * k) (bc (xs ++ zs.flatMap Pk.be8)) ∧ Below w.heap.size w w' := by
  have HN : Hid (n = xs.length) := hn
  have HK : Hid (k = zs.length) := hk
  have HS : Hid (Sl w ao c xs) := hS
  have HC : Hid (∀ (j : Nat) z, zs[j]? = some z → w.cell? ⟨g, o + j, none⟩ = some (.int .i64 z)) := hcells
  clear hn hS hk hcells
  go_enter Try.func15, Try.ntmps15
  go_wp2_with fail
  refine (grown_any ao n c (8 * k) _ xs _ (by first | rfl | simp | omega) HN.out HS.out (by omega)).mono ?_
  rintro e w1 ⟨rfl, hown, hb⟩
  obtain ⟨v1, hv1⟩ : ∃ v1 : Value, v1 = .slice (some ⟨w.heap.size, 0, none⟩) n (n + 8 * k) := ⟨_, rfl⟩
  rw [← hv1] at hown ⊢
  clear hv1
  have HO : Hid (w1.ownsRow w.heap.size 5 1 v1 n (bc xs)) := hown
  have HB : Hid (Below w.heap.size w w1) := hb
  clear hown hb
  go_wp2
  go_loopw [5, 15] (fun u i wr => ∃ j : Nat, j ≤ k ∧ i = .int .i64 j ∧ wr.ownsRow w.heap.size 5 1 u (n + 8 * j) (bc (xs ++ (zs.take j).flatMap Pk.be8)) ∧ Below w.heap.size w wr) (fun _ i _ => k - (intOf i).toNat)
  case atStart => exact ⟨0, Nat.zero_le _, rfl, by simpa using HO.out, HB.out⟩
  case round =>
    obtain ⟨j, hj, rfl, hown, hb⟩ := hrel
    have HO1 : Hid (wr.ownsRow w.heap.size 5 1 u5 (n + 8 * j) (bc (xs ++ (zs.take j).flatMap Pk.be8))) := hown
    have HB1 : Hid (Below w.heap.size w wr) := hb
    clear hown hb
    by_cases hlt : j < k
    · obtain ⟨z, hz⟩ : ∃ z, zs[j]? = some z := ⟨zs[j]'(by rw [← HK.out]; exact hlt), List.getElem?_eq_getElem _⟩
      have hcell : wr.cell? ⟨g, o + j, none⟩ = some (.int .i64 z) := Below.kept HB1.out (HC.out j z hz)
      have HZ : Hid (zs[j]? = some z) := hz
      clear hz
      have hlt' : (j : Int) < k := by omega
      have hBw : w.heap.size ≤ wr.heap.size := HB1.out.size
      go_wp2_with (go_at_call 23; refine (number_any w.heap.size _ _ _ _ _ HO1.out hBw (by omega)).mono ?_; rintro e w2 ⟨v2, rfl, hown2, hb2⟩)
      have HO2 : Hid (w2.ownsRow w.heap.size 5 1 v2 (n + 8 * (j + 1)) (bc (xs ++ (zs.take (j + 1)).flatMap Pk.be8))) := by
        have h : w2.ownsRow w.heap.size 5 1 v2 (n + 8 * (j + 1)) (bc (xs ++ (zs.take (j + 1)).flatMap Pk.be8)) := by
          rw [flat_take zs j z HZ.out, ← List.append_assoc, show n + 8 * (j + 1) = n + 8 * j + 8 by omega]
          first | exact hown2 | (rw [List.append_assoc] at hown2 ⊢; exact hown2)
        exact h
      have HB2 : Hid (Below w.heap.size w w2) := HB1.out.trans hb2
      clear hown2 hb2
      go_wp2
      go_roundw
      case rel => exact ⟨j + 1, by omega, by go_num, HO2.out, HB2.out⟩
      case measure => simp [intOf]; omega
    · have hlt' : ¬ (j : Int) < k := by omega
      have hjk : j = k := by omega
      have HO3 : Hid (wr.ownsRow w.heap.size 5 1 u5 (n + 8 * k) (bc (xs ++ zs.flatMap Pk.be8))) := by
        have h := HO1.out
        rw [hjk, HK.out, List.take_length, ← HK.out] at h
        exact h
      clear hjk
      go_wp2
      go_ret
      exact ⟨_, rfl, HO3.out, HB1.out⟩

set_option maxRecDepth 20000 in
set_option maxHeartbeats 400000 in
theorem i64_any (ao : Option Addr) (n c : Nat) (xs : List UInt8) (z : Int) (w : World) (hn : n = xs.length) (hS : Sl w ao c xs) (hN : n ≤ 200000) :
    Calls Try.prog 16 #[.slice ao n c, .int .i64 z] w fun e w' => ∃ v', e = .returned v' ∧ w'.ownsRow w.heap.size 5 1 v' (n + 8) (bc (xs ++ Pk.be8 z)) ∧ Below w.heap.size w w' := by
  have HN : Hid (n = xs.length) := hn
  have HS : Hid (Sl w ao c xs) := hS
  clear hn hS
  go_enter Try.func16, Try.ntmps16
  go_wp2_with fail
  refine (all_some ao n c xs [z] w.heap.size 0 1 1 _ HN.out (HS.out.alloc _) rfl ?_ hN (by decide)).mono ?_
  · intro j y hy
    match j, hy with
    | 0, hy => simp at hy; subst hy; simp
  rintro e w1 ⟨v1, rfl, hown, hb⟩
  have HO : Hid (w1.ownsRow w.heap.size 5 1 v1 (n + 8) (bc (xs ++ Pk.be8 z))) := by
    have h := hown.mono (show w.heap.size ≤ _ by simp)
    have h2 : w1.ownsRow w.heap.size 5 1 v1 (n + 8) (bc (xs ++ Pk.be8 z)) := by simpa using h
    exact h2
  have HB : Hid (Below w.heap.size w w1) := ((Below.refl _ w).alloc (Nat.le_refl _) _).trans (hb.mono (by simp))
  clear hown hb
  go_wp2
  go_ret
  exact ⟨_, rfl, HO.out, HB.out⟩

set_option maxRecDepth 20000 in
set_option maxHeartbeats 400000 in
theorem text_any (ao : Option Addr) (n c : Nat) (xs : List UInt8) (s : ByteArray) (w : World) (hn : n = xs.length) (hS : Sl w ao c xs) (hN : n ≤ 200000) (hs : s.size ≤ 20000) :
    Calls Try.prog 17 #[.slice ao n c, .string s] w fun e w' => ∃ v', e = .returned v' ∧ w'.ownsRow w.heap.size 5 1 v' (n + 8 + s.size) (bc (xs ++ Pk.txt s.data.toList)) ∧ Below w.heap.size w w' := by
  have HN : Hid (n = xs.length) := hn
  have HS : Hid (Sl w ao c xs) := hS
  clear hn hS
  go_enter Try.func17, Try.ntmps17
  go_wp2_with fail
  refine (grown_any ao n c (8 + s.size) _ xs _ (by first | rfl | simp | omega) HN.out HS.out (by omega)).mono ?_
  rintro e w1 ⟨rfl, hown, hb⟩
  obtain ⟨v1, hv1⟩ : ∃ v1 : Value, v1 = .slice (some ⟨w.heap.size, 0, none⟩) n (n + (8 + s.size)) := ⟨_, rfl⟩
  rw [← hv1] at hown ⊢
  clear hv1
  have HO : Hid (w1.ownsRow w.heap.size 5 1 v1 n (bc xs)) := hown
  have HB : Hid (Below w.heap.size w w1) := hb
  clear hown hb
  go_wp2_with fail
  refine (number_any w.heap.size v1 n xs _ _ HO.out HB.out.size (by omega)).mono ?_
  rintro e w2 ⟨v2, rfl, hown, hb⟩
  have HO2 : Hid (w2.ownsRow w.heap.size 5 1 v2 (n + 8) (bc (xs ++ Pk.be8 s.size))) := hown
  have HB2 : Hid (Below w.heap.size w w2) := HB.out.trans hb
  clear hown hb
  go_wp2_with (at_builtin; refine append_text rfl _ _ rfl w.heap.size v2 _ _ rfl _ HO2.out HB2.out.size s rfl (by omega) ?_)
  intro v3 w3 hown hb
  have HO3 : Hid (w3.ownsRow w.heap.size 5 1 v3 (n + 8 + s.size) (bc (xs ++ Pk.txt s.data.toList))) := by first | exact hown | (rw [List.append_assoc] at hown; exact hown)
  have HB3 : Hid (Below w.heap.size w w3) := HB2.out.trans hb
  clear hown hb
  go_wp2
  go_ret
  exact ⟨_, rfl, HO3.out, HB3.out⟩

end Go.Proofs.Ytlgpjgncimcijab.Pw
namespace Go.Proofs.Ytlgpjgncimcijab.Pw
open Go.RowKit

theorem text_bs (v : Value) (xs : List UInt8) (s : ByteArray) (w : World) (h : Bs w v xs) (hN : xs.length ≤ 200000) (hs : s.size ≤ 20000) :
    Calls Try.prog 17 #[v, .string s] w fun e w' => ∃ v', e = .returned v' ∧ Bs w' v' (xs ++ Pk.txt s.data.toList) ∧ Below w.heap.size w w' := by
  obtain ⟨ao, n, c, rfl, hn, hsl⟩ := h
  refine (text_any ao n c xs s w hn hsl (by omega) hs).mono ?_
  rintro e w' ⟨v', rfl, ho, hb⟩
  exact ⟨v', rfl, Bs.own ho, hb⟩

theorem i64_bs (v : Value) (xs : List UInt8) (z : Int) (w : World) (h : Bs w v xs) (hN : xs.length ≤ 200000) :
    Calls Try.prog 16 #[v, .int .i64 z] w fun e w' => ∃ v', e = .returned v' ∧ Bs w' v' (xs ++ Pk.be8 z) ∧ Below w.heap.size w w' := by
  obtain ⟨ao, n, c, rfl, hn, hsl⟩ := h
  refine (i64_any ao n c xs z w hn hsl (by omega)).mono ?_
  rintro e w' ⟨v', rfl, ho, hb⟩
  exact ⟨v', rfl, Bs.own ho, hb⟩

theorem all_bs (v u : Value) (xs : List UInt8) (zs : List Int) (w : World) (h : Bs w v xs) (hi : Bi w u zs) (hN : xs.length ≤ 200000) (hK : zs.length ≤ 10000) :
    Calls Try.prog 15 #[v, u] w fun e w' => ∃ v', e = .returned v' ∧ Bs w' v' (xs ++ zs.flatMap Pk.be8) ∧ Below w.heap.size w w' := by
  obtain ⟨ao, n, c, rfl, hn, hsl⟩ := h
  obtain ⟨av, k, cv, rfl, hk, hcs⟩ := hi
  cases hz : zs with
  | nil =>
    subst hz
    obtain rfl : k = 0 := hk
    refine (all_none ao n c xs av cv w hn hsl (by omega)).mono ?_
    rintro e w' ⟨v', rfl, ho, hb⟩
    exact ⟨v', rfl, by simpa using Bs.own ho, hb⟩
  | cons z0 zt =>
    obtain ⟨g, o, rfl, _⟩ := hcs 0 z0 (by rw [hz]; rfl)
    rw [← hz]
    refine (all_some ao n c xs zs g o k cv w hn hsl hk (fun j z hzj => ?_) (by omega) (by omega)).mono ?_
    · obtain ⟨g', o', e, hcell⟩ := hcs j z hzj
      simp only [Option.some.injEq, Addr.mk.injEq, and_true] at e
      obtain ⟨rfl, rfl⟩ := e
      exact hcell
    rintro e w' ⟨v', rfl, ho, hb⟩
    exact ⟨v', rfl, Bs.own ho, hb⟩

end Go.Proofs.Ytlgpjgncimcijab.Pw
