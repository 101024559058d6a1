/- What pack.grown and pack.number answer: walks over their bodies. What pack.number answers. What pack.All, pack.I64 and pack.Text answer. What pack.Read and a Reader's inner calls (spoil, take) answer. What a Reader's I64, Count, Text, End and Bad answer. The calls of pack over bytes wherever they lie; 'string(b)'. -/
import Derived.Test.YtpjdjobdbandhaaDoorBase
import Derived.Test.YtpjdjobdbandhaaDoorPlain
import Derived.WalkKit
import Derived.WalkSpells
import Derived.WalkLawsBesides
import Derived.OwnWalk
import Derived.Lib.BufSteps
import Derived.Laws.AppendOwnNone
import Derived.Deep.Onto
import Derived.Laws.BitsAllLaws
namespace Go.Proofs.YtpjdjobdbandhaaDoor.Pw
open Go.RowKit

set_option maxRecDepth 20000 in
set_option maxHeartbeats 400000 in
theorem grown_any (ao : Option Addr) (n c m : Nat) (mi : Int) (xs : List UInt8) (w : World) (hm : mi = m) (hn : n = xs.length) (hS : Sl w ao c xs) (hN : n + m ≤ 1000000) :
    Calls Tryd.prog 56 #[.slice ao n c, .int .i64 mi] w fun e w' => e = .returned (.slice (some ⟨w.heap.size, 0, none⟩) n (n + m)) ∧ w'.ownsRow w.heap.size 5 1 (.slice (some ⟨w.heap.size, 0, none⟩) n (n + m)) n (bc xs) ∧ Below w.heap.size w w' := by
  obtain ⟨i0, hi, hz0, hz1, hz2⟩ := info_parts infoByte
  have HN : Hid (n = xs.length) := hn
  have HS : Hid (Sl w ao c xs) := hS
  clear hn hS
  subst hm
  go_enter Tryd.func56, Tryd.ntmps56
  go_wp2_with (at_make; refine wpList_make_own _ rfl _ _ 47 rfl w.heap.size 5 i0 (.int .u8 0) 1 Tryd.underlying47 hi hz0 hz1 .i64 .i64 _ (n + m) rfl rfl (by omega) ?b1 ?b2 ?b3 ?_)
  case b1 => rw [hz2]; omega
  case b2 => unfold maxLen; omega
  case b3 => exact Nat.le_refl _
  intro w1 hown hg
  have HO : Hid (w1.ownsRow w.heap.size 5 1 (.slice (some ⟨w.heap.size, 0, none⟩) 0 (n + m)) 0 []) := hown
  have HG : Hid (w.grownBy w1 none) := hg
  clear hown hg
  go_wp2_with (at_builtin; refine wpList_append_fits_any _ rfl _ _ 47 rfl w.heap.size 5 i0 1 Tryd.underlying47 hi hz1 _ _ _ [] rfl HO.out ao n c (bc xs) rfl ?c1 ?c2 ?c3 (bc_one xs) ?c4 ?_)
  case c1 => rw [bc_len, HN.out]; omega
  case c2 => intro h; have := HS.out.nil h; rw [HN.out]; exact this
  case c3 => intro ad had j u hu; exact HG.out.cell (HS.out.cells ad had j u hu) (by simp)
  case c4 => omega
  intro w2 hown2 hg2
  have HO2 : Hid (w2.ownsRow w.heap.size 5 1 (.slice (some ⟨w.heap.size, 0, none⟩) n (n + m)) n (bc xs)) := by
    have h : w2.ownsRow w.heap.size 5 1 (.slice (some ⟨w.heap.size, 0, none⟩) n (n + m)) n (bc xs) := by simpa using hown2
    exact h
  have HB2 : Hid (Below w.heap.size w w2) := ((Below.refl w.heap.size w).grown HG.out (Nat.le_refl _) (fun k hk => by cases hk)).grown hg2 (HG.out.size) (fun k hk => by simp at hk; omega)
  clear hown2 hg2
  go_wp2
  go_ret
  exact ⟨by simp, HO2.out, HB2.out⟩

end Go.Proofs.YtpjdjobdbandhaaDoor.Pw
namespace Go.Proofs.YtpjdjobdbandhaaDoor.Pw
open Go.RowKit

theorem be8_take (z : Int) (k : Nat) (h : k < 8) : (Pk.be8 z).take (k + 1) = (Pk.be8 z).take k ++ [Pk.byteAt z (56 - 8 * k)] := by
  match k, h with
  | 0, _ => rfl
  | 1, _ => rfl
  | 2, _ => rfl
  | 3, _ => rfl
  | 4, _ => rfl
  | 5, _ => rfl
  | 6, _ => rfl
  | 7, _ => rfl

set_option maxRecDepth 20000 in
set_option maxHeartbeats 400000 in
theorem number_any (B : Nat) (v : Value) (n : Nat) (xs : List UInt8) (z : Int) (w : World) (hown : w.ownsRow B 5 1 v n (bc xs)) (hB : B ≤ w.heap.size) (hN : n ≤ 1000000) :
    Calls Tryd.prog 61 #[v, .int .i64 z] w fun e w' => ∃ v', e = .returned v' ∧ w'.ownsRow B 5 1 v' (n + 8) (bc (xs ++ Pk.be8 z)) ∧ Below B w w' := by
  obtain ⟨i0, hi, hz0, hz1, hz2⟩ := info_parts infoByte
  have HO : Hid (w.ownsRow B 5 1 v n (bc xs)) := hown
  clear hown
  go_enter Tryd.func61, Tryd.ntmps61
  go_wp2
  go_loopw [0, 5] (fun u i wr => ∃ k : Nat, k ≤ 8 ∧ i = .int .i64 (56 - 8 * (k : Int)) ∧ wr.ownsRow B 5 1 u (n + k) (bc (xs ++ (Pk.be8 z).take k)) ∧ Below B w wr) (fun _ i _ => (intOf i + 8).toNat)
  case atStart => exact ⟨0, by omega, rfl, by simpa using HO.out, Below.refl _ _⟩
  case round =>
    obtain ⟨k, hk, rfl, hown, hb⟩ := hrel
    have HO1 : Hid (wr.ownsRow B 5 1 u0 (n + k) (bc (xs ++ (Pk.be8 z).take k))) := hown
    have HB1 : Hid (Below B w wr) := hb
    clear hown hb
    by_cases h8 : k < 8
    · have h0 : (0 : Int) ≤ 56 - 8 * (k : Int) := by omega
      have hBw : B ≤ wr.heap.size := Nat.le_trans hB HB1.out.size
      go_wp2_with (at_builtin; refine append_byte rfl _ _ rfl B _ _ _ rfl wr _ (Pk.byteAt z (56 - 8 * k)) HO1.out hBw rfl (by omega) ?c1 ?_)
      case c1 => rw [Pk.byteAt_nat, IntKind.wrap_u64]
      intro v' w1 hown hb
      have HO2 : Hid (w1.ownsRow B 5 1 v' (n + k + 1) (bc (xs ++ ((Pk.be8 z).take k ++ [Pk.byteAt z (56 - 8 * k)])))) := by first | exact hown | (rw [← List.append_assoc]; exact hown)
      have HB2 : Hid (Below B w w1) := HB1.out.trans hb
      clear hown hb
      go_wp2
      go_roundw
      case rel => exact ⟨k + 1, by omega, by go_num, by rw [be8_take z k h8]; exact HO2.out, HB2.out⟩
      case measure => simp [intOf]; omega
    · have h0 : ¬ (0 : Int) ≤ 56 - 8 * (k : Int) := by omega
      obtain rfl : k = 8 := by omega
      go_wp2
      go_ret
      exact ⟨_, rfl, HO1.out, HB1.out⟩

end Go.Proofs.YtpjdjobdbandhaaDoor.Pw
namespace Go.Proofs.YtpjdjobdbandhaaDoor.Pw
open Go.RowKit

theorem flat_take (zs : List Int) (k : Nat) (z : Int) (h : zs[k]? = some z) : (zs.take (k + 1)).flatMap Pk.be8 = (zs.take k).flatMap Pk.be8 ++ Pk.be8 z := by
  rw [List.take_add_one, h]; simp

theorem flat_len (zs : List Int) : (zs.flatMap Pk.be8).length = 8 * zs.length := by
  induction zs with
  | nil => rfl
  | cons z zs ih => rw [List.flatMap_cons, List.length_append, ih]; simp [Pk.be8]; omega

set_option maxRecDepth 20000 in
set_option maxHeartbeats 400000 in
theorem all_none (ao : Option Addr) (n c : Nat) (xs : List UInt8) (av : Option Addr) (cv : Nat) (w : World) (hn : n = xs.length) (hS : Sl w ao c xs) (hN : n ≤ 200000) :
    Calls Tryd.prog 40 #[.slice ao n c, .slice av 0 cv] w fun e w' => ∃ v', e = .returned v' ∧ w'.ownsRow w.heap.size 5 1 v' n (bc xs) ∧ Below w.heap.size w w' := by
  have HN : Hid (n = xs.length) := hn
  have HS : Hid (Sl w ao c xs) := hS
  clear hn hS
  go_enter Tryd.func40, Tryd.ntmps40
  go_wp2_with fail
  refine (grown_any ao n c 0 _ xs _ (by simp) HN.out HS.out (by omega)).mono ?_
  rintro e w1 ⟨rfl, hown, hb⟩
  obtain ⟨v1, hv1⟩ : ∃ v1 : Value, v1 = .slice (some ⟨w.heap.size, 0, none⟩) n (n + 0) := ⟨_, rfl⟩
  rw [← hv1] at hown ⊢
  clear hv1
  have HO : Hid (w1.ownsRow w.heap.size 5 1 v1 n (bc xs)) := hown
  have HB : Hid (Below w.heap.size w w1) := hb
  clear hown hb
  go_wp2
  go_loop [5, 15] (fun u i => u = v1 ∧ i = .int .i64 0) (fun _ _ => 0)
  case atStart => exact ⟨rfl, rfl⟩
  case round =>
    obtain ⟨rfl, rfl⟩ := hrel
    go_wp2
    go_ret
    exact ⟨_, rfl, HO.out, HB.out⟩

set_option maxRecDepth 20000 in
set_option maxHeartbeats 400000 in
theorem all_some (ao : Option Addr) (n c : Nat) (xs : List UInt8) (zs : List Int) (g o k cv : Nat) (w : World) (hn : n = xs.length) (hS : Sl w ao c xs) (hk : k = zs.length) (hcells : ∀ (j : Nat) z, zs[j]? = some z → w.cell? ⟨g, o + j, none⟩ = some (.int .i64 z)) (hN : n ≤ 200000) (hK : k ≤ 10000) :
    Calls Tryd.prog 40 #[.slice ao n c, .slice (some ⟨g, o, none⟩) k cv] w fun e w' => ∃ v', e = .returned v' ∧ w'.ownsRow w.heap.size 5 1 v' (n + 8 * k) (bc (xs ++ zs.flatMap Pk.be8)) ∧ Below w.heap.size w w' := by
  have HN : Hid (n = xs.length) := hn
  have HK : Hid (k = zs.length) := hk
  have HS : Hid (Sl w ao c xs) := hS
  have HC : Hid (∀ (j : Nat) z, zs[j]? = some z → w.cell? ⟨g, o + j, none⟩ = some (.int .i64 z)) := hcells
  clear hn hS hk hcells
  go_enter Tryd.func40, Tryd.ntmps40
  go_wp2_with fail
  refine (grown_any ao n c (8 * k) _ xs _ (by first | rfl | simp | omega) HN.out HS.out (by omega)).mono ?_
  rintro e w1 ⟨rfl, hown, hb⟩
  obtain ⟨v1, hv1⟩ : ∃ v1 : Value, v1 = .slice (some ⟨w.heap.size, 0, none⟩) n (n + 8 * k) := ⟨_, rfl⟩
  rw [← hv1] at hown ⊢
  clear hv1
  have HO : Hid (w1.ownsRow w.heap.size 5 1 v1 n (bc xs)) := hown
  have HB : Hid (Below w.heap.size w w1) := hb
  clear hown hb
  go_wp2
  go_loopw [5, 15] (fun u i wr => ∃ j : Nat, j ≤ k ∧ i = .int .i64 j ∧ wr.ownsRow w.heap.size 5 1 u (n + 8 * j) (bc (xs ++ (zs.take j).flatMap Pk.be8)) ∧ Below w.heap.size w wr) (fun _ i _ => k - (intOf i).toNat)
  case atStart => exact ⟨0, Nat.zero_le _, rfl, by simpa using HO.out, HB.out⟩
  case round =>
    obtain ⟨j, hj, rfl, hown, hb⟩ := hrel
    have HO1 : Hid (wr.ownsRow w.heap.size 5 1 u5 (n + 8 * j) (bc (xs ++ (zs.take j).flatMap Pk.be8))) := hown
    have HB1 : Hid (Below w.heap.size w wr) := hb
    clear hown hb
    by_cases hlt : j < k
    · obtain ⟨z, hz⟩ : ∃ z, zs[j]? = some z := ⟨zs[j]'(by rw [← HK.out]; exact hlt), List.getElem?_eq_getElem _⟩
      have hcell : wr.cell? ⟨g, o + j, none⟩ = some (.int .i64 z) := Below.kept HB1.out (HC.out j z hz)
      have HZ : Hid (zs[j]? = some z) := hz
      clear hz
      have hlt' : (j : Int) < k := by omega
      have hBw : w.heap.size ≤ wr.heap.size := HB1.out.size
      go_wp2_with (go_at_call 61; refine (number_any w.heap.size _ _ _ _ _ HO1.out hBw (by omega)).mono ?_; rintro e w2 ⟨v2, rfl, hown2, hb2⟩)
      have HO2 : Hid (w2.ownsRow w.heap.size 5 1 v2 (n + 8 * (j + 1)) (bc (xs ++ (zs.take (j + 1)).flatMap Pk.be8))) := by
        have h : w2.ownsRow w.heap.size 5 1 v2 (n + 8 * (j + 1)) (bc (xs ++ (zs.take (j + 1)).flatMap Pk.be8)) := by
          rw [flat_take zs j z HZ.out, ← List.append_assoc, show n + 8 * (j + 1) = n + 8 * j + 8 by omega]
          first | exact hown2 | (rw [List.append_assoc] at hown2 ⊢; exact hown2)
        exact h
      have HB2 : Hid (Below w.heap.size w w2) := HB1.out.trans hb2
      clear hown2 hb2
      go_wp2
      go_roundw
      case rel => exact ⟨j + 1, by omega, by go_num, HO2.out, HB2.out⟩
      case measure => simp [intOf]; omega
    · have hlt' : ¬ (j : Int) < k := by omega
      have hjk : j = k := by omega
      have HO3 : Hid (wr.ownsRow w.heap.size 5 1 u5 (n + 8 * k) (bc (xs ++ zs.flatMap Pk.be8))) := by
        have h := HO1.out
        rw [hjk, HK.out, List.take_length, ← HK.out] at h
        exact h
      clear hjk
      go_wp2
      go_ret
      exact ⟨_, rfl, HO3.out, HB1.out⟩

set_option maxRecDepth 20000 in
set_option maxHeartbeats 400000 in
theorem i64_any (ao : Option Addr) (n c : Nat) (xs : List UInt8) (z : Int) (w : World) (hn : n = xs.length) (hS : Sl w ao c xs) (hN : n ≤ 200000) :
    Calls Tryd.prog 41 #[.slice ao n c, .int .i64 z] w fun e w' => ∃ v', e = .returned v' ∧ w'.ownsRow w.heap.size 5 1 v' (n + 8) (bc (xs ++ Pk.be8 z)) ∧ Below w.heap.size w w' := by
  have HN : Hid (n = xs.length) := hn
  have HS : Hid (Sl w ao c xs) := hS
  clear hn hS
  go_enter Tryd.func41, Tryd.ntmps41
  go_wp2_with fail
  refine (all_some ao n c xs [z] w.heap.size 0 1 1 _ HN.out (HS.out.alloc _) rfl ?_ hN (by decide)).mono ?_
  · intro j y hy
    match j, hy with
    | 0, hy => simp at hy; subst hy; simp
  rintro e w1 ⟨v1, rfl, hown, hb⟩
  have HO : Hid (w1.ownsRow w.heap.size 5 1 v1 (n + 8) (bc (xs ++ Pk.be8 z))) := by
    have h := hown.mono (show w.heap.size ≤ _ by simp)
    have h2 : w1.ownsRow w.heap.size 5 1 v1 (n + 8) (bc (xs ++ Pk.be8 z)) := by simpa using h
    exact h2
  have HB : Hid (Below w.heap.size w w1) := ((Below.refl _ w).alloc (Nat.le_refl _) _).trans (hb.mono (by simp))
  clear hown hb
  go_wp2
  go_ret
  exact ⟨_, rfl, HO.out, HB.out⟩

set_option maxRecDepth 20000 in
set_option maxHeartbeats 400000 in
theorem text_any (ao : Option Addr) (n c : Nat) (xs : List UInt8) (s : ByteArray) (w : World) (hn : n = xs.length) (hS : Sl w ao c xs) (hN : n ≤ 200000) (hs : s.size ≤ 20000) :
    Calls Tryd.prog 42 #[.slice ao n c, .string s] w fun e w' => ∃ v', e = .returned v' ∧ w'.ownsRow w.heap.size 5 1 v' (n + 8 + s.size) (bc (xs ++ Pk.txt s.data.toList)) ∧ Below w.heap.size w w' := by
  have HN : Hid (n = xs.length) := hn
  have HS : Hid (Sl w ao c xs) := hS
  clear hn hS
  go_enter Tryd.func42, Tryd.ntmps42
  go_wp2_with fail
  refine (grown_any ao n c (8 + s.size) _ xs _ (by first | rfl | simp | omega) HN.out HS.out (by omega)).mono ?_
  rintro e w1 ⟨rfl, hown, hb⟩
  obtain ⟨v1, hv1⟩ : ∃ v1 : Value, v1 = .slice (some ⟨w.heap.size, 0, none⟩) n (n + (8 + s.size)) := ⟨_, rfl⟩
  rw [← hv1] at hown ⊢
  clear hv1
  have HO : Hid (w1.ownsRow w.heap.size 5 1 v1 n (bc xs)) := hown
  have HB : Hid (Below w.heap.size w w1) := hb
  clear hown hb
  go_wp2_with fail
  refine (number_any w.heap.size v1 n xs _ _ HO.out HB.out.size (by omega)).mono ?_
  rintro e w2 ⟨v2, rfl, hown, hb⟩
  have HO2 : Hid (w2.ownsRow w.heap.size 5 1 v2 (n + 8) (bc (xs ++ Pk.be8 s.size))) := hown
  have HB2 : Hid (Below w.heap.size w w2) := HB.out.trans hb
  clear hown hb
  go_wp2_with (at_builtin; refine append_text rfl _ _ rfl w.heap.size v2 _ _ rfl _ HO2.out HB2.out.size s rfl (by omega) ?_)
  intro v3 w3 hown hb
  have HO3 : Hid (w3.ownsRow w.heap.size 5 1 v3 (n + 8 + s.size) (bc (xs ++ Pk.txt s.data.toList))) := by first | exact hown | (rw [List.append_assoc] at hown; exact hown)
  have HB3 : Hid (Below w.heap.size w w3) := HB2.out.trans hb
  clear hown hb
  go_wp2
  go_ret
  exact ⟨_, rfl, HO3.out, HB3.out⟩

end Go.Proofs.YtpjdjobdbandhaaDoor.Pw
namespace Go.Proofs.YtpjdjobdbandhaaDoor.Pw
open Go.RowKit

/-- What a Reader at block q has left: nil, or bytes that lie in another block, from B on. -/
def Lf (B : Nat) (w : World) (q : Nat) (v : Value) (xs : List UInt8) : Prop :=
  (v = .slice none 0 0 ∧ xs = []) ∨ ∃ g o c, v = .slice (some ⟨g, o, none⟩) xs.length c ∧ xs.length ≤ c ∧ (B ≤ g ∧ g < q) ∧ ∀ (j : Nat) x, xs[j]? = some x → w.cell? ⟨g, o + j, none⟩ = some (.int .u8 (x.toNat : Int))

/-- A Reader at block q: its two cells. -/
structure Rd (B : Nat) (w : World) (q : Nat) (xs : List UInt8) (bad : Bool) : Prop where
  ex : ∃ v, w.cell? ⟨q, 0, none⟩ = some v ∧ Lf B w q v xs
  c1 : w.cell? ⟨q, 1, none⟩ = some (.bool bad)
  f0 : w.frozen? ⟨q, 0, none⟩ = false
  f1 : w.frozen? ⟨q, 1, none⟩ = false
  sad : bad = true → xs = []
variable {B : Nat}

theorem Rd.lt {w : World} {q : Nat} {xs : List UInt8} {bad : Bool} (h : Rd B w q xs bad) : q < w.heap.size := World.block_lt_of_cell? w ⟨q, 1, none⟩ h.c1

/-- Another block's change leaves a Reader's bytes alone, and the Reader where it isn't its own block. -/
theorem Lf.grown {w w' : World} {q r : Nat} {v : Value} {xs : List UInt8} (h : Lf B w q v xs) (hg : w.grownBy w' (some r)) (hr : v.ownBlock ≠ some r) : Lf B w' q v xs := by
  rcases h with h | ⟨g, o, c, rfl, h1, h2, h4⟩
  · exact Or.inl h
  · exact Or.inr ⟨g, o, c, rfl, h1, h2, fun j x hx => hg.cell (h4 j x hx) hr⟩

theorem Rd.grown {w w' : World} {q r : Nat} {xs : List UInt8} {bad : Bool} (h : Rd B w q xs bad) (hg : w.grownBy w' (some r)) (hr : q < r) : Rd B w' q xs bad := by
  obtain ⟨v, hc, hl⟩ := h.ex
  have hb := hg.block q h.lt (by simp; omega)
  refine ⟨⟨v, (World.cell?_of_block hb).trans hc, hl.grown hg ?_⟩, (World.cell?_of_block hb).trans h.c1, (World.frozen?_of_block hb).trans h.f0, (World.frozen?_of_block hb).trans h.f1, h.sad⟩
  rcases hl with ⟨rfl, _⟩ | ⟨g, o, c, rfl, _, hgq, _⟩
  · simp [Value.ownBlock]
  · simp [Value.ownBlock]; omega

theorem Rd.below {w w' : World} {q : Nat} {xs : List UInt8} {bad : Bool} (h : Rd B w q xs bad) (hb : Below w.heap.size w w') : Rd B w' q xs bad :=
  h.grown (grownBy_below (row := some w.heap.size) hb) h.lt

set_option maxRecDepth 20000 in
set_option maxHeartbeats 400000 in
theorem read_any (ao : Option Addr) (n c : Nat) (xs : List UInt8) (w : World) (hn : n = xs.length) (hS : Sl w ao c xs) (hN : n ≤ 200000) :
    Calls Tryd.prog 31 #[.slice ao n c] w fun e w' => ∃ q, e = .returned (.pointer (some ⟨q, 0, none⟩)) ∧ w.heap.size ≤ q ∧ Rd w.heap.size w' q xs false ∧ Below w.heap.size w w' := by
  have HN : Hid (n = xs.length) := hn
  have HS : Hid (Sl w ao c xs) := hS
  clear hn hS
  go_enter Tryd.func31, Tryd.ntmps31
  go_wp2_with fail
  refine (grown_any ao n c 0 _ xs _ rfl HN.out HS.out (by omega)).mono ?_
  rintro e w1 ⟨rfl, hown, hb⟩
  have HO : Hid (w1.ownsRow w.heap.size 5 1 (.slice (some ⟨w.heap.size, 0, none⟩) n (n + 0)) n (bc xs)) := hown
  have HB : Hid (Below w.heap.size w w1) := hb
  clear hown hb
  go_wp2
  go_ret
  have hs := HB.out.size
  have hlt := (HO.out.lt w.heap.size rfl).2
  refine ⟨w1.heap.size, rfl, hs, ⟨⟨.slice (some ⟨w.heap.size, 0, none⟩) n (n + 0), ?_, ?_⟩, ?_, ?_, ?_, fun h => by cases h⟩, HB.out.alloc hs _⟩
  · simp
  · refine Or.inr ⟨w.heap.size, 0, n + 0, by rw [HN.out], by have := HN.out; omega, ⟨Nat.le_refl _, by omega⟩, fun j x hx => ?_⟩
    have h := (Sl.own HO.out).2.alloc (.cells #[.slice (some ⟨w.heap.size, 0, none⟩) n (n + 0), .bool false] 93)
    have := h.cells _ rfl j (.int .u8 (x.toNat : Int)) (by simp [bc, hx])
    rw [Addr.add_lit] at this
    exact this
  · simp
  · simp only [World.frozen?, heap_alloc_new]; rfl
  · simp only [World.frozen?, heap_alloc_new]; rfl

set_option maxRecDepth 20000 in
set_option maxHeartbeats 400000 in
theorem spoil_any (q : Nat) (xs : List UInt8) (bad : Bool) (w : World) (hR : Rd B w q xs bad) :
    Calls Tryd.prog 57 #[.pointer (some ⟨q, 0, none⟩)] w fun e w' => e = .returned (.tuple #[]) ∧ Rd B w' q [] true ∧ w.grownBy w' (some q) := by
  obtain ⟨v, hc0, hl⟩ := hR.ex
  have hc1 := hR.c1
  have hf0 := hR.f0
  have hf1 := hR.f1
  clear hl hR
  go_enter Tryd.func57, Tryd.ntmps57
  go_wp2
  go_end0
  refine ⟨rfl, ⟨⟨.slice none 0 0, ?_, Or.inl ⟨rfl, rfl⟩⟩, ?_, ?_, ?_, fun _ => rfl⟩, ?_⟩
  · rw [World.cell?_setCell_other _ _ _ _ (by simp)]
    exact World.cell?_setCell_same _ _ _ hc0
  · refine World.cell?_setCell_same _ _ _ (u := .bool bad) ?_
    rw [World.cell?_setCell_other _ _ _ _ (by simp)]
    exact hc1
  · simpa using hf0
  · simpa using hf1
  · exact grownBy_trans (grownBy_setCell _ ⟨q, 0, none⟩ _) (grownBy_setCell _ ⟨q, 1, none⟩ _)

set_option maxRecDepth 20000 in
set_option maxHeartbeats 400000 in
/-- Fewer bytes are left than are asked for. -/
theorem take_no (q n : Nat) (m : Int) (xs : List UInt8) (bad : Bool) (w : World) (hm : m = n) (hR : Rd B w q xs bad) (hn : xs.length < n) :
    Calls Tryd.prog 58 #[.pointer (some ⟨q, 0, none⟩), .int .i64 m] w fun e w' => e = .returned (.slice none 0 0) ∧ Rd B w' q [] true ∧ w.grownBy w' (some q) := by
  subst hm
  have HR : Hid (Rd B w q xs bad) := hR
  obtain ⟨v, hc0, hl⟩ := hR.ex
  clear hR
  rcases hl with ⟨rfl, rfl⟩ | ⟨g, o, c, rfl, hlc, -, -⟩
  · have h1 : (0 : Int) < n := by simpa using hn
    go_enter Tryd.func58, Tryd.ntmps58
    go_wp2_with fail
    refine (spoil_any q _ _ _ HR.out).mono ?_
    rintro e w1 ⟨rfl, hr, hg⟩
    have HR1 : Hid (Rd B w1 q [] true) := hr
    have HG1 : Hid (w.grownBy w1 (some q)) := hg
    clear hr hg hc0
    go_wp2
    go_ret
    exact ⟨rfl, HR1.out, HG1.out⟩
  · obtain ⟨l, hl⟩ : ∃ l, l = xs.length := ⟨_, rfl⟩
    rw [← hl] at hn hlc hc0
    clear hl
    have h1 : (l : Int) < n := by omega
    go_enter Tryd.func58, Tryd.ntmps58
    go_wp2_with fail
    refine (spoil_any q _ _ _ HR.out).mono ?_
    rintro e w1 ⟨rfl, hr, hg⟩
    have HR1 : Hid (Rd B w1 q [] true) := hr
    have HG1 : Hid (w.grownBy w1 (some q)) := hg
    clear hr hg hc0
    go_wp2
    go_ret
    exact ⟨rfl, HR1.out, HG1.out⟩

set_option maxRecDepth 20000 in
set_option maxHeartbeats 400000 in
/-- Nothing is left, and nothing is asked for. -/
theorem take_nil (q : Nat) (bad : Bool) (w : World) (hc0 : w.cell? ⟨q, 0, none⟩ = some (.slice none 0 0)) (hR : Rd B w q [] bad) :
    Calls Tryd.prog 58 #[.pointer (some ⟨q, 0, none⟩), .int .i64 0] w fun e w' => e = .returned (.slice none 0 0) ∧ Rd B w' q [] bad ∧ w.grownBy w' (some q) := by
  have hc1 := hR.c1
  have hf0 := hR.f0
  have hf1 := hR.f1
  clear hR
  go_enter Tryd.func58, Tryd.ntmps58
  go_wp2
  go_ret
  refine ⟨rfl, ⟨⟨.slice none 0 0, ?_, Or.inl ⟨rfl, rfl⟩⟩, ?_, ?_, ?_, fun _ => rfl⟩, grownBy_setCell _ ⟨q, 0, none⟩ _⟩
  · exact World.cell?_setCell_same _ _ _ hc0
  · rw [World.cell?_setCell_other _ _ _ _ (by simp)]
    exact hc1
  · simpa using hf0
  · simpa using hf1

theorem rd_moved {w : World} {q n g l o c : Nat} {v0 : Value} {xs : List UInt8} {bad : Bool} (hc0 : w.cell? ⟨q, 0, none⟩ = some v0) (hc1 : w.cell? ⟨q, 1, none⟩ = some (.bool bad)) (hf0 : w.frozen? ⟨q, 0, none⟩ = false) (hf1 : w.frozen? ⟨q, 1, none⟩ = false)
    (hd : bad = true → xs = []) (hl : l = xs.length) (hgq : B ≤ g ∧ g < q) (hlc : l - n ≤ c) (hcells : ∀ (j : Nat) x, (xs.drop n)[j]? = some x → w.cell? ⟨g, o + j, none⟩ = some (.int .u8 (x.toNat : Int))) :
    Rd B (w.setCell ⟨q, 0, none⟩ (.slice (some ⟨g, o, none⟩) (l - n) c)) q (xs.drop n) bad := by
  have hlen : (xs.drop n).length = l - n := by rw [List.length_drop, hl]
  refine ⟨⟨_, World.cell?_setCell_same _ _ _ hc0, Or.inr ⟨g, o, c, by rw [hlen], by rw [hlen]; exact hlc, hgq, ?_⟩⟩, ?_, by simpa using hf0, by simpa using hf1, fun h => by rw [hd h]; simp⟩
  · intro j x hx
    rw [World.cell?_setCell_other _ _ _ _ (by intro e; injection e with e1 e2 e3; omega)]
    exact hcells j x hx
  · rw [World.cell?_setCell_other _ _ _ _ (by simp)]
    exact hc1

set_option maxRecDepth 20000 in
set_option maxHeartbeats 400000 in
/-- As many bytes are left as are asked for. -/
theorem take_some (q n g o l c : Nat) (m : Int) (xs : List UInt8) (bad : Bool) (w : World) (hm : m = n) (hR : Rd B w q xs bad) (hl : l = xs.length) (hc0 : w.cell? ⟨q, 0, none⟩ = some (.slice (some ⟨g, o, none⟩) l c)) (hlc : l ≤ c) (hgq : B ≤ g ∧ g < q)
    (hcells : ∀ (j : Nat) x, xs[j]? = some x → w.cell? ⟨g, o + j, none⟩ = some (.int .u8 (x.toNat : Int))) (hn : n ≤ l) :
    Calls Tryd.prog 58 #[.pointer (some ⟨q, 0, none⟩), .int .i64 m] w fun e w' => e = .returned (.slice (some ⟨g, o, none⟩) n c) ∧ (∀ (j : Nat) x, (xs.take n)[j]? = some x → w'.cell? ⟨g, o + j, none⟩ = some (.int .u8 (x.toNat : Int))) ∧ Rd B w' q (xs.drop n) bad ∧ w.grownBy w' (some q) := by
  subst hm
  have hc1 := hR.c1
  have hf0 := hR.f0
  have hf1 := hR.f1
  have HD : Hid (bad = true → xs = []) := hR.sad
  have HC : Hid (∀ (j : Nat) x, xs[j]? = some x → w.cell? ⟨g, o + j, none⟩ = some (.int .u8 (x.toNat : Int))) := hcells
  have HL : Hid (l = xs.length) := hl
  clear hR hl hcells
  have h1 : ¬ (l : Int) < n := by omega
  have h2 : (n : Int) ≤ l := by omega
  have h3 : (n : Int) ≤ c := by omega
  by_cases hcn : c = n
  · go_enter Tryd.func58, Tryd.ntmps58
    go_wp2
    go_ret
    refine ⟨rfl, ?_, rd_moved hc0 hc1 hf0 hf1 HD.out HL.out hgq (by omega) ?_, grownBy_setCell _ ⟨q, 0, none⟩ _⟩
    · intro j x hx
      rw [World.cell?_setCell_other _ _ _ _ (by intro e; injection e with e1 e2 e3; omega)]
      rw [List.getElem?_take] at hx
      split at hx
      · exact HC.out j x hx
      · cases hx
    · intro j x hx
      have := (List.getElem?_eq_some_iff.1 hx).1
      rw [List.length_drop, ← HL.out] at this
      omega
  · go_enter Tryd.func58, Tryd.ntmps58
    go_wp2
    go_ret
    refine ⟨rfl, ?_, rd_moved hc0 hc1 hf0 hf1 HD.out HL.out hgq (by omega) ?_, grownBy_setCell _ ⟨q, 0, none⟩ _⟩
    · intro j x hx
      rw [World.cell?_setCell_other _ _ _ _ (by intro e; injection e with e1 e2 e3; omega)]
      rw [List.getElem?_take] at hx
      split at hx
      · exact HC.out j x hx
      · cases hx
    · intro j x hx
      rw [List.getElem?_drop] at hx
      rw [Nat.add_assoc]
      exact HC.out (n + j) x hx

/-- The bytes that a Reader's take hands out. -/
structure Cut (w : World) (v : Value) (xs : List UInt8) : Prop where
  ex : (v = .slice none 0 0 ∧ xs = []) ∨ ∃ g o c, v = .slice (some ⟨g, o, none⟩) xs.length c ∧ ∀ (j : Nat) x, xs[j]? = some x → w.cell? ⟨g, o + j, none⟩ = some (.int .u8 (x.toNat : Int))

theorem take_yes (q n : Nat) (m : Int) (xs : List UInt8) (bad : Bool) (w : World) (hm : m = n) (hR : Rd B w q xs bad) (hn : n ≤ xs.length) :
    Calls Tryd.prog 58 #[.pointer (some ⟨q, 0, none⟩), .int .i64 m] w fun e w' => ∃ v, e = .returned v ∧ Cut w' v (xs.take n) ∧ Rd B w' q (xs.drop n) bad ∧ w.grownBy w' (some q) := by
  obtain ⟨v, hc0, hl⟩ := hR.ex
  rcases hl with ⟨rfl, rfl⟩ | ⟨g, o, c, rfl, hlc, hgq, hcells⟩
  · obtain rfl : n = 0 := by simpa using hn
    subst hm
    refine (take_nil q bad w hc0 hR).mono ?_
    rintro e w' ⟨rfl, hr, hg⟩
    exact ⟨_, rfl, ⟨Or.inl ⟨rfl, by simp⟩⟩, by simpa using hr, hg⟩
  · refine (take_some q n g o _ c m xs bad w hm hR rfl hc0 hlc hgq hcells hn).mono ?_
    rintro e w' ⟨rfl, hcs, hr, hg⟩
    exact ⟨_, rfl, ⟨Or.inr ⟨g, o, c, by rw [List.length_take, Nat.min_eq_left hn], hcs⟩⟩, hr, hg⟩

end Go.Proofs.YtpjdjobdbandhaaDoor.Pw
namespace Go.Proofs.YtpjdjobdbandhaaDoor.Pw
variable {B : Nat}
open Go.RowKit

theorem val_step (ys : List UInt8) (j : Nat) (x : UInt8) (t : Nat) (hx : ys[j]? = some x) (ht : t = Pk.val (ys.take j)) (hj : j < 8) :
    bits .or .u64 (IntKind.u64.wrap ((t : Int) * 256)) (IntKind.u64.wrap (x.toNat : Int)) = (Pk.val (ys.take (j + 1)) : Int) := by
  have h1 := Pk.val_lt (ys.take j)
  rw [← ht] at h1
  have h2 : 256 ^ (ys.take j).length ≤ 256 ^ 7 := Nat.pow_le_pow_right (by decide) (by rw [List.length_take]; omega)
  have h3 : t < 72057594037927936 := by have : (256 : Nat) ^ 7 = 72057594037927936 := by decide
                                        omega
  have h4 := x.toNat_lt
  have e1 : IntKind.u64.wrap ((t : Int) * 256) = ((t * 256 : Nat) : Int) := by rw [IntKind.wrap_u64]; omega
  have e2 : IntKind.u64.wrap (x.toNat : Int) = ((x.toNat : Nat) : Int) := by rw [IntKind.wrap_u64]; omega
  rw [e1, e2, u64_or_nat _ _ (by omega) (by omega), Pk.or_byte _ _ (by omega), List.take_add_one, hx]
  show _ = (Pk.val (ys.take j ++ [x]) : Int)
  rw [Pk.val_snoc, ← ht]

theorem val8_lt (ys : List UInt8) (h : ys.length = 8) : Pk.val ys < 18446744073709551616 := by
  have h1 := Pk.val_lt ys
  rw [h] at h1
  exact h1

theorem wrap_sgn (t : Nat) (h : t < 18446744073709551616) : wrap64 (t : Int) = Pk.sgn t := by
  unfold wrap64 Pk.sgn
  split <;> omega

set_option maxRecDepth 20000 in
set_option maxHeartbeats 400000 in
theorem rI64_yes (q : Nat) (xs : List UInt8) (bad : Bool) (w : World) (hR : Rd B w q xs bad) (hn : 8 ≤ xs.length) :
    Calls Tryd.prog 33 #[.pointer (some ⟨q, 0, none⟩)] w fun e w' => e = .returned (.int .i64 (Pk.sgn (Pk.val (xs.take 8)))) ∧ Rd B w' q (xs.drop 8) bad ∧ w.grownBy w' (some q) := by
  have HR : Hid (Rd B w q xs bad) := hR
  have HN : Hid (8 ≤ xs.length) := hn
  obtain ⟨ys, hys⟩ : ∃ ys, ys = xs.take 8 := ⟨_, rfl⟩
  rw [← hys]
  have HY : Hid (ys = xs.take 8) := hys
  clear hR hn hys
  go_enter Tryd.func33, Tryd.ntmps33
  go_wp2_with fail
  refine (take_yes q 8 _ xs bad _ rfl HR.out HN.out).mono ?_
  rintro e w1 ⟨v, rfl, hcut, hr, hg⟩
  have HR1 : Hid (Rd B w1 q (xs.drop 8) bad) := hr
  have HG1 : Hid (w.grownBy w1 (some q)) := hg
  have hlen : (xs.take 8).length = 8 := by rw [List.length_take]; have := HN.out; omega
  rw [← HY.out] at hcut hlen
  have HL : Hid (ys.length = 8) := hlen
  rcases hcut.ex with ⟨_, he⟩ | ⟨g, o, c, hv, hcs⟩
  · rw [he] at hlen; cases hlen
  rw [hlen] at hv
  have HC : Hid (∀ (j : Nat) x, ys[j]? = some x → w1.cell? ⟨g, o + j, none⟩ = some (.int .u8 (x.toNat : Int))) := hcs
  subst hv
  clear hr hg hcut hlen hcs HR HN
  go_wp2
  go_loop [3, 9] (fun u i => ∃ j : Nat, j ≤ 8 ∧ i = .int .i64 j ∧ u = .int .u64 (Pk.val (ys.take j))) (fun _ i => 8 - (intOf i).toNat)
  case atStart => exact ⟨0, by omega, rfl, rfl⟩
  case round =>
    obtain ⟨j, hj, rfl, rfl⟩ := hrel
    obtain ⟨t, ht⟩ : ∃ t, t = Pk.val (ys.take j) := ⟨_, rfl⟩
    rw [← ht]
    have HT : Hid (t = Pk.val (ys.take j)) := ht
    clear ht
    by_cases hlt : j < 8
    · obtain ⟨x, hx⟩ : ∃ x, ys[j]? = some x := ⟨ys[j]'(by rw [HL.out]; exact hlt), List.getElem?_eq_getElem _⟩
      have hcell := HC.out j x hx
      have HX : Hid (ys[j]? = some x) := hx
      clear hx
      have hlt' : (j : Int) < 8 := by omega
      go_wp2
      go_round
      case rel =>
        exact ⟨j + 1, by omega, by go_num, by rw [val_step ys j x t HX.out HT.out hlt]⟩
      case measure => simp [intOf]; omega
    · have hlt' : ¬ (j : Int) < 8 := by omega
      have h8 : t = Pk.val ys := by rw [HT.out, List.take_of_length_le (by rw [HL.out]; omega)]
      have HW : Hid (wrap64 (t : Int) = Pk.sgn (Pk.val ys)) := by rw [h8]; exact wrap_sgn _ (val8_lt ys HL.out)
      clear h8
      go_wp2
      go_ret
      refine ⟨?_, HR1.out, HG1.out⟩
      rw [← HW.out]
      rfl

set_option maxRecDepth 20000 in
set_option maxHeartbeats 400000 in
theorem rI64_no (q : Nat) (xs : List UInt8) (bad : Bool) (w : World) (hR : Rd B w q xs bad) (hn : xs.length < 8) :
    Calls Tryd.prog 33 #[.pointer (some ⟨q, 0, none⟩)] w fun e w' => e = .returned (.int .i64 0) ∧ Rd B w' q [] true ∧ w.grownBy w' (some q) := by
  have HR : Hid (Rd B w q xs bad) := hR
  have HN : Hid (xs.length < 8) := hn
  clear hR hn
  go_enter Tryd.func33, Tryd.ntmps33
  go_wp2_with fail
  refine (take_no q 8 _ xs bad _ rfl HR.out HN.out).mono ?_
  rintro e w1 ⟨rfl, hr, hg⟩
  have HR1 : Hid (Rd B w1 q [] true) := hr
  have HG1 : Hid (w.grownBy w1 (some q)) := hg
  clear hr hg HR HN
  go_wp2
  go_loop [3, 9] (fun u i => i = .int .i64 0 ∧ u = .int .u64 0) (fun _ _ => 0)
  case atStart => exact ⟨rfl, rfl⟩
  case round =>
    obtain ⟨rfl, rfl⟩ := hrel
    go_wp2
    go_ret
    exact ⟨rfl, HR1.out, HG1.out⟩

theorem rI64_any (q : Nat) (xs : List UInt8) (bad : Bool) (w : World) (hR : Rd B w q xs bad) :
    Calls Tryd.prog 33 #[.pointer (some ⟨q, 0, none⟩)] w fun e w' => e = .returned (.int .i64 (Pk.rI xs bad).1) ∧ Rd B w' q (Pk.rI xs bad).2.1 (Pk.rI xs bad).2.2 ∧ w.grownBy w' (some q) := by
  unfold Pk.rI
  by_cases h : 8 ≤ xs.length
  · rw [if_pos h]; exact rI64_yes q xs bad w hR h
  · rw [if_neg h]; exact rI64_no q xs bad w hR (by omega)

set_option maxRecDepth 20000 in
set_option maxHeartbeats 400000 in
theorem rCount_any (q : Nat) (m : Int) (xs : List UInt8) (bad : Bool) (w : World) (hR : Rd B w q xs bad) :
    Calls Tryd.prog 32 #[.pointer (some ⟨q, 0, none⟩), .int .i64 m] w fun e w' => e = .returned (.int .i64 (Pk.rC m xs bad).1) ∧ Rd B w' q (Pk.rC m xs bad).2.1 (Pk.rC m xs bad).2.2 ∧ w.grownBy w' (some q) := by
  have HR : Hid (Rd B w q xs bad) := hR
  clear hR
  unfold Pk.rC
  obtain ⟨z, hz⟩ : ∃ z, z = (Pk.rI xs bad).1 := ⟨_, rfl⟩
  have HZ : Hid (z = (Pk.rI xs bad).1) := hz
  by_cases h1 : z < 0
  · rw [if_pos (by rw [← hz]; exact Or.inl h1)]
    clear hz
    go_enter Tryd.func32, Tryd.ntmps32
    go_wp2_with fail
    refine (rI64_any q xs bad _ HR.out).mono ?_
    rintro e w1 ⟨rfl, hr, hg⟩
    rw [← HZ.out]
    have HR1 : Hid (Rd B w1 q (Pk.rI xs bad).2.1 (Pk.rI xs bad).2.2) := hr
    have HG1 : Hid (w.grownBy w1 (some q)) := hg
    clear hr hg
    go_wp2_with fail
    refine (spoil_any q _ _ _ HR1.out).mono ?_
    rintro e w2 ⟨rfl, hr, hg⟩
    have HR2 : Hid (Rd B w2 q [] true) := hr
    have HG2 : Hid (w.grownBy w2 (some q)) := grownBy_trans HG1.out hg
    clear hr hg
    go_wp2
    go_ret
    exact ⟨rfl, HR2.out, HG2.out⟩
  by_cases h2 : m < z
  · rw [if_pos (by rw [← hz]; exact Or.inr h2)]
    clear hz
    go_enter Tryd.func32, Tryd.ntmps32
    go_wp2_with fail
    refine (rI64_any q xs bad _ HR.out).mono ?_
    rintro e w1 ⟨rfl, hr, hg⟩
    rw [← HZ.out]
    have HR1 : Hid (Rd B w1 q (Pk.rI xs bad).2.1 (Pk.rI xs bad).2.2) := hr
    have HG1 : Hid (w.grownBy w1 (some q)) := hg
    clear hr hg
    go_wp2_with fail
    refine (spoil_any q _ _ _ HR1.out).mono ?_
    rintro e w2 ⟨rfl, hr, hg⟩
    have HR2 : Hid (Rd B w2 q [] true) := hr
    have HG2 : Hid (w.grownBy w2 (some q)) := grownBy_trans HG1.out hg
    clear hr hg
    go_wp2
    go_ret
    exact ⟨rfl, HR2.out, HG2.out⟩
  · rw [if_neg (by rw [← hz]; exact fun h => h.elim h1 h2)]
    rw [← hz]
    clear hz
    go_enter Tryd.func32, Tryd.ntmps32
    go_wp2_with fail
    refine (rI64_any q xs bad _ HR.out).mono ?_
    rintro e w1 ⟨rfl, hr, hg⟩
    rw [← HZ.out]
    have HR1 : Hid (Rd B w1 q (Pk.rI xs bad).2.1 (Pk.rI xs bad).2.2) := hr
    have HG1 : Hid (w.grownBy w1 (some q)) := hg
    clear hr hg
    go_wp2
    go_ret
    exact ⟨rfl, HR1.out, HG1.out⟩

/-- 'string(b)' of bytes that were handed out. -/
theorem Cut.conv {w : World} {v : Value} {xs : List UInt8} (h : Cut w v xs) : (convert 47 9 v).run Tryd.prog w = .ok (.string ⟨xs.toArray⟩) w := by
  rcases h.ex with ⟨rfl, rfl⟩ | ⟨g, o, c, rfl, hcs⟩
  · exact run_convert_bytes_nil w 47 5 Tryd.underlying47 Tryd.underlying5 0 0 9 Tryd.underlying9
  · exact run_convert_bytes_back (P := Tryd.prog) w 47 9 5 ⟨g, o, none⟩ c xs Tryd.underlying47 Tryd.underlying5 Tryd.underlying9 (fun j hj => by rw [Addr.add_lit]; exact hcs j _ (List.getElem?_eq_getElem hj))

set_option maxRecDepth 20000 in
set_option maxHeartbeats 400000 in
theorem rText_any (q : Nat) (m : Int) (xs : List UInt8) (bad : Bool) (w : World) (hR : Rd B w q xs bad) :
    Calls Tryd.prog 59 #[.pointer (some ⟨q, 0, none⟩), .int .i64 m] w fun e w' => e = .returned (.string ⟨(Pk.rT m xs bad).1.toArray⟩) ∧ Rd B w' q (Pk.rT m xs bad).2.1 (Pk.rT m xs bad).2.2 ∧ w.grownBy w' (some q) := by
  have HR : Hid (Rd B w q xs bad) := hR
  clear hR
  unfold Pk.rT
  obtain ⟨z, hz⟩ : ∃ z, z = (Pk.rC m xs bad).1 := ⟨_, rfl⟩
  have HZ : Hid (z = (Pk.rC m xs bad).1) := hz
  have hz0 : 0 ≤ z := by rw [hz]; exact Pk.rC_nonneg m xs bad
  obtain ⟨n, hn⟩ : ∃ n, n = z.toNat := ⟨_, rfl⟩
  have HN : Hid (z = (n : Int)) := by have h : z = (n : Int) := by omega
                                      exact h
  rw [← hz, ← hn]
  clear hz hz0 hn
  by_cases h : n ≤ (Pk.rC m xs bad).2.1.length
  · rw [if_pos h]
    have HL : Hid (n ≤ (Pk.rC m xs bad).2.1.length) := h
    clear h
    obtain ⟨ys, hys⟩ : ∃ ys, ys = (Pk.rC m xs bad).2.1.take n := ⟨_, rfl⟩
    rw [← hys]
    have HY : Hid (ys = (Pk.rC m xs bad).2.1.take n) := hys
    clear hys
    go_enter Tryd.func59, Tryd.ntmps59
    go_wp2_with fail
    refine (rCount_any q m xs bad _ HR.out).mono ?_
    rintro e w1 ⟨rfl, hr, hg⟩
    rw [← HZ.out]
    have HR1 : Hid (Rd B w1 q (Pk.rC m xs bad).2.1 (Pk.rC m xs bad).2.2) := hr
    have HG1 : Hid (w.grownBy w1 (some q)) := hg
    clear hr hg
    go_wp2_with fail
    refine (take_yes q n _ _ _ _ HN.out HR1.out HL.out).mono ?_
    rintro e w2 ⟨v, rfl, hcut, hr, hg⟩
    rw [← HY.out] at hcut
    have hcv := hcut.conv
    have HR2 : Hid (Rd B w2 q ((Pk.rC m xs bad).2.1.drop n) (Pk.rC m xs bad).2.2) := hr
    have HG2 : Hid (w.grownBy w2 (some q)) := grownBy_trans HG1.out hg
    clear hr hg hcut
    go_wp2
    go_ret
    exact ⟨rfl, HR2.out, HG2.out⟩
  · rw [if_neg h]
    have HL : Hid ((Pk.rC m xs bad).2.1.length < n) := by have : (Pk.rC m xs bad).2.1.length < n := by omega
                                                          exact this
    clear h
    have hcv := fun w => Cut.conv (w := w) (v := .slice none 0 0) (xs := []) ⟨Or.inl ⟨rfl, rfl⟩⟩
    go_enter Tryd.func59, Tryd.ntmps59
    go_wp2_with fail
    refine (rCount_any q m xs bad _ HR.out).mono ?_
    rintro e w1 ⟨rfl, hr, hg⟩
    rw [← HZ.out]
    have HR1 : Hid (Rd B w1 q (Pk.rC m xs bad).2.1 (Pk.rC m xs bad).2.2) := hr
    have HG1 : Hid (w.grownBy w1 (some q)) := hg
    clear hr hg
    go_wp2_with fail
    refine (take_no q n _ _ _ _ HN.out HR1.out HL.out).mono ?_
    rintro e w2 ⟨rfl, hr, hg⟩
    have HR2 : Hid (Rd B w2 q [] true) := hr
    have HG2 : Hid (w.grownBy w2 (some q)) := grownBy_trans HG1.out hg
    clear hr hg
    go_wp2
    go_ret
    exact ⟨rfl, HR2.out, HG2.out⟩


set_option maxRecDepth 20000 in
set_option maxHeartbeats 400000 in
theorem rEnd_any (q : Nat) (xs : List UInt8) (bad : Bool) (w : World) (hR : Rd B w q xs bad) :
    Calls Tryd.prog 35 #[.pointer (some ⟨q, 0, none⟩)] w fun e w' => e = .returned (.bool (!bad && xs.isEmpty)) ∧ w' = w := by
  have hc1 := hR.c1
  obtain ⟨v, hc0, hl⟩ := hR.ex
  clear hR
  cases bad with
  | true =>
    clear hl
    go_enter Tryd.func35, Tryd.ntmps35
    go_wp2
    go_ret
    exact ⟨rfl, rfl⟩
  | false =>
    obtain ⟨r, hr⟩ : ∃ r, r = xs.isEmpty := ⟨_, rfl⟩
    rw [← hr]
    rcases hl with ⟨rfl, rfl⟩ | ⟨g, o, c, rfl, -, -, -⟩
    · subst hr
      go_enter Tryd.func35, Tryd.ntmps35
      go_wp2
      go_ret
      exact ⟨rfl, rfl⟩
    · obtain ⟨l, hl⟩ : ∃ l, l = xs.length := ⟨_, rfl⟩
      have HE : Hid (((l : Int) == 0) = r) := by
        have h : ((l : Int) == 0) = r := by
          rw [hr, hl]; cases xs with
          | nil => rfl
          | cons a t => simp; omega
        exact h
      rw [← hl] at hc0
      clear hl hr
      cases h0 : ((l : Int) == 0) with
      | true =>
        obtain rfl : r = true := by rw [← HE.out]; exact h0
        clear HE
        go_enter Tryd.func35, Tryd.ntmps35
        go_wp2
        go_ret
        exact ⟨rfl, rfl⟩
      | false =>
        obtain rfl : r = false := by rw [← HE.out]; exact h0
        clear HE
        go_enter Tryd.func35, Tryd.ntmps35
        go_wp2
        go_ret
        exact ⟨rfl, rfl⟩

end Go.Proofs.YtpjdjobdbandhaaDoor.Pw
namespace Go.Proofs.YtpjdjobdbandhaaDoor.Pw
open Go.RowKit

theorem text_bs (v : Value) (xs : List UInt8) (s : ByteArray) (w : World) (h : Bs w v xs) (hN : xs.length ≤ 200000) (hs : s.size ≤ 20000) :
    Calls Tryd.prog 42 #[v, .string s] w fun e w' => ∃ v', e = .returned v' ∧ Bs w' v' (xs ++ Pk.txt s.data.toList) ∧ Below w.heap.size w w' := by
  obtain ⟨ao, n, c, rfl, hn, hsl⟩ := h
  refine (text_any ao n c xs s w hn hsl (by omega) hs).mono ?_
  rintro e w' ⟨v', rfl, ho, hb⟩
  exact ⟨v', rfl, Bs.own ho, hb⟩

theorem i64_bs (v : Value) (xs : List UInt8) (z : Int) (w : World) (h : Bs w v xs) (hN : xs.length ≤ 200000) :
    Calls Tryd.prog 41 #[v, .int .i64 z] w fun e w' => ∃ v', e = .returned v' ∧ Bs w' v' (xs ++ Pk.be8 z) ∧ Below w.heap.size w w' := by
  obtain ⟨ao, n, c, rfl, hn, hsl⟩ := h
  refine (i64_any ao n c xs z w hn hsl (by omega)).mono ?_
  rintro e w' ⟨v', rfl, ho, hb⟩
  exact ⟨v', rfl, Bs.own ho, hb⟩

theorem all_bs (v u : Value) (xs : List UInt8) (zs : List Int) (w : World) (h : Bs w v xs) (hi : Bi w u zs) (hN : xs.length ≤ 200000) (hK : zs.length ≤ 10000) :
    Calls Tryd.prog 40 #[v, u] w fun e w' => ∃ v', e = .returned v' ∧ Bs w' v' (xs ++ zs.flatMap Pk.be8) ∧ Below w.heap.size w w' := by
  obtain ⟨ao, n, c, rfl, hn, hsl⟩ := h
  obtain ⟨av, k, cv, rfl, hk, hcs⟩ := hi
  cases hz : zs with
  | nil =>
    subst hz
    obtain rfl : k = 0 := hk
    refine (all_none ao n c xs av cv w hn hsl (by omega)).mono ?_
    rintro e w' ⟨v', rfl, ho, hb⟩
    exact ⟨v', rfl, by simpa using Bs.own ho, hb⟩
  | cons z0 zt =>
    obtain ⟨g, o, rfl, _⟩ := hcs 0 z0 (by rw [hz]; rfl)
    rw [← hz]
    refine (all_some ao n c xs zs g o k cv w hn hsl hk (fun j z hzj => ?_) (by omega) (by omega)).mono ?_
    · obtain ⟨g', o', e, hcell⟩ := hcs j z hzj
      simp only [Option.some.injEq, Addr.mk.injEq, and_true] at e
      obtain ⟨rfl, rfl⟩ := e
      exact hcell
    rintro e w' ⟨v', rfl, ho, hb⟩
    exact ⟨v', rfl, Bs.own ho, hb⟩

theorem read_bs (v : Value) (xs : List UInt8) (w : World) (h : Bs w v xs) (hN : xs.length ≤ 200000) :
    Calls Tryd.prog 31 #[v] w fun e w' => ∃ q, e = .returned (.pointer (some ⟨q, 0, none⟩)) ∧ w.heap.size ≤ q ∧ Rd w.heap.size w' q xs false ∧ Below w.heap.size w w' := by
  obtain ⟨ao, n, c, rfl, hn, hsl⟩ := h
  exact read_any ao n c xs w hn hsl (by omega)

end Go.Proofs.YtpjdjobdbandhaaDoor.Pw
