/- What pack.grown and pack.number answer: walks over their bodies. -/
import Derived.Test.YteloehalobampaaProg
import Derived.Test.YteloehalobampaaPlain
import Derived.WalkKit
import Derived.WalkSpells
import Derived.WalkLawsBesides
import Derived.OwnWalk
import Derived.Lib.BufSteps
import Derived.Laws.AppendOwnNone
import Derived.Deep.Onto
namespace Go.Proofs.Yteloehalobampaa
open Go.RowKit

theorem infoByte : (Try.prog.info? 5).map (fun i => (i.zero, i.size, i.bytes)) = some (some (.int .u8 0), 1, 1) := by kernel_rfl

/-- The cells of bytes. -/
def bc (xs : List UInt8) : List Value := xs.map fun b => Value.int .u8 b.toNat

theorem bc_len (xs : List UInt8) : (bc xs).length = xs.length := by simp [bc]
theorem bc_one (xs : List UInt8) : ∀ u ∈ bc xs, u.oneCell' = true := by
  intro u hu
  obtain ⟨_, _, rfl⟩ := List.mem_map.1 hu
  rfl
theorem bc_app (xs ys : List UInt8) : bc (xs ++ ys) = bc xs ++ bc ys := by simp [bc]

/-- At this address lie these bytes; where there is no address there are none. -/
structure Sl (w : World) (ao : Option Addr) (c : Nat) (xs : List UInt8) : Prop where
  cap : xs.length ≤ c
  nil : ao = none → xs.length = 0 ∧ c = 0
  cells : ∀ ad, ao = some ad → ∀ j u, (bc xs)[j]? = some u → w.cell? (ad.add j) = some u

theorem Sl.alloc {w : World} {ao : Option Addr} {c : Nat} {xs : List UInt8} (h : Sl w ao c xs) (o : Obj) : Sl (w.alloc o) ao c xs :=
  ⟨h.cap, h.nil, fun ad had j u hu => (World.grownBy_alloc w o none).cell (h.cells ad had j u hu) (by simp)⟩

theorem Sl.below {w w' : World} {ao : Option Addr} {c : Nat} {xs : List UInt8} (h : Sl w ao c xs) (hb : Below w.heap.size w w') : Sl w' ao c xs :=
  ⟨h.cap, h.nil, fun ad had j u hu => by have hc := h.cells ad had j u hu; rw [hb.cell (World.block_lt_of_cell? w _ hc)]; exact hc⟩

/-- What a call owns can be read. -/
theorem Sl.own {w : World} {B n c : Nat} {ao : Option Addr} {xs : List UInt8} (h : w.ownsRow B 5 1 (.slice ao n c) n (bc xs)) : n = xs.length ∧ Sl w ao c xs := by
  have hl : n = xs.length := by have := h.1; rw [bc_len] at this; omega
  refine ⟨hl, ?_, ?_, ?_⟩
  · rcases h.2 with ⟨hv, h0⟩ | ⟨g, cap, cur, hv, _, _, hnc, _⟩
    · omega
    · simp only [Value.slice.injEq] at hv
      omega
  · intro e; subst e
    rcases h.2 with ⟨hv, h0⟩ | ⟨g, cap, cur, hv, _⟩
    · simp at hv; exact ⟨by omega, hv.2⟩
    · simp at hv
  · intro ad had j u hu
    subst had
    rcases h.2 with ⟨hv, _⟩ | ⟨g, cap, cur, hv, _⟩
    · simp at hv
    · simp only [Value.slice.injEq, Option.some.injEq] at hv
      obtain ⟨rfl, _, rfl⟩ := hv
      exact h.cells rfl j u hu

theorem own_shape {w : World} {B n : Nat} {v : Value} {xs : List Value} (h : w.ownsRow B 5 1 v n xs) : ∃ ao c, v = .slice ao n c := by
  rcases h.2 with ⟨hv, h0⟩ | ⟨g, cap, cur, hv, _⟩
  · subst h0; exact ⟨_, _, hv⟩
  · exact ⟨_, _, hv⟩

/-- One byte more, behind what the call owns. -/
theorem append_byte {ops : Array Oper} {rest : List Oper} {o : Oper} {a : Act} {Q : Exit → Act → World → Prop} (hgd : o.guard = none) (s x : Operand)
    (ho : o.op = .call { callee := .builtin .append, args := #[s, x], argTypes := #[25, 25] })
    (B : Nat) (v : Value) (n : Nat) (xs : List UInt8) (hs : a.eval s = v) (w0 : World) (c : Int) (b : UInt8) (hown : w0.ownsRow B 5 1 v n (bc xs)) (hB : B ≤ w0.heap.size)
    (hx : a.eval x = .slice (some ⟨w0.heap.size, 0, none⟩) 1 1) (hlen : n ≤ 100000000) (hc : c = b.toNat)
    (h : ∀ v' w', w'.ownsRow B 5 1 v' (n + 1) (bc (xs ++ [b])) → Below B w0 w' → wpList Try.prog ops Q rest (a.put o.dst v') w') : wpList Try.prog ops Q (o :: rest) a (w0.alloc (.cells #[.int .u8 c] 5)) := by
  obtain ⟨i0, hi, hz0, hz1, hz2⟩ := info_parts infoByte
  subst hc
  refine wpList_append_own _ hgd s x 25 ho B 5 i0 (.int .u8 0) 1 1 Try.underlying25 hi hz0 hz1 hz2 rfl (by decide) v n (bc xs) hs (hown.alloc _) ⟨w0.heap.size, 0, none⟩ 1 1 (bc [b]) hx rfl ?_ (bc_one _) (by unfold maxLen; omega) (by omega) (by simp; omega) ?_
  · intro j u hj
    match j, hj with
    | 0, hj => simp [bc] at hj; subst hj; simp [Addr.add]
    | (j + 1), hj => simp [bc] at hj
  · intro v' w' ho' hg _
    exact h v' w' (by rw [bc_app]; exact ho') (((Below.refl B w0).alloc hB _).grown hg (by simp; omega) (fun k hk => (hown.lt k hk).1))

/-- A text, behind what the call owns. -/
theorem append_text {ops : Array Oper} {rest : List Oper} {o : Oper} {a : Act} {Q : Exit → Act → World → Prop} (hgd : o.guard = none) (sl x : Operand)
    (ho : o.op = .call { callee := .builtin .append, args := #[sl, x], argTypes := #[25, 9] })
    (B : Nat) (v : Value) (n : Nat) (xs : List UInt8) (hs : a.eval sl = v) (w : World) (hown : w.ownsRow B 5 1 v n (bc xs)) (hB : B ≤ w.heap.size) (s : ByteArray) (hx : a.eval x = .string s) (hlen : n + s.size ≤ 100000000)
    (h : ∀ v' w', w'.ownsRow B 5 1 v' (n + s.size) (bc (xs ++ s.data.toList)) → Below B w w' → wpList Try.prog ops Q rest (a.put o.dst v') w') : wpList Try.prog ops Q (o :: rest) a w := by
  obtain ⟨i0, hi, hz0, hz1, hz2⟩ := info_parts infoByte
  refine Lib.wpList_append_own_string w hgd sl x 25 9 ho B 5 i0 Try.underlying25 Try.underlying9 hi hz0 hz1 hz2 v n (bc xs) hs hown s hx (by unfold maxLen; omega) (by omega) hB ?_
  intro v' w' ho' hg _
  exact h v' w' (by rw [bc_app]; exact ho') ((Below.refl B w).grown hg hB (fun k hk => (hown.lt k hk).1))

set_option maxHeartbeats 400000 in
theorem grown_any (ao : Option Addr) (n c m : Nat) (mi : Int) (xs : List UInt8) (w : World) (hm : mi = m) (hn : n = xs.length) (hS : Sl w ao c xs) (hN : n + m ≤ 1000000) :
    Calls Try.prog 26 #[.slice ao n c, .int .i64 mi] w fun e w' => e = .returned (.slice (some ⟨w.heap.size, 0, none⟩) n (n + m)) ∧ w'.ownsRow w.heap.size 5 1 (.slice (some ⟨w.heap.size, 0, none⟩) n (n + m)) n (bc xs) ∧ Below w.heap.size w w' := by
  obtain ⟨i0, hi, hz0, hz1, hz2⟩ := info_parts infoByte
  have HN : Hid (n = xs.length) := hn
  have HS : Hid (Sl w ao c xs) := hS
  clear hn hS
  subst hm
  go_enter Try.func26, Try.ntmps26
  go_wp2_with (at_make; refine wpList_make_own _ rfl _ _ 25 rfl w.heap.size 5 i0 (.int .u8 0) 1 Try.underlying25 hi hz0 hz1 .i64 .i64 _ (n + m) rfl rfl (by omega) ?b1 ?b2 ?b3 ?_)
  case b1 => rw [hz2]; omega
  case b2 => unfold maxLen; omega
  case b3 => exact Nat.le_refl _
  intro w1 hown hg
  have HO : Hid (w1.ownsRow w.heap.size 5 1 (.slice (some ⟨w.heap.size, 0, none⟩) 0 (n + m)) 0 []) := hown
  have HG : Hid (w.grownBy w1 none) := hg
  clear hown hg
  go_wp2_with (at_builtin; refine wpList_append_fits_any _ rfl _ _ 25 rfl w.heap.size 5 i0 1 Try.underlying25 hi hz1 _ _ _ [] rfl HO.out ao n c (bc xs) rfl ?c1 ?c2 ?c3 (bc_one xs) ?c4 ?_)
  case c1 => rw [bc_len, HN.out]; omega
  case c2 => intro h; have := HS.out.nil h; rw [HN.out]; exact this
  case c3 => intro ad had j u hu; exact HG.out.cell (HS.out.cells ad had j u hu) (by simp)
  case c4 => omega
  intro w2 hown2 hg2
  have HO2 : Hid (w2.ownsRow w.heap.size 5 1 (.slice (some ⟨w.heap.size, 0, none⟩) n (n + m)) n (bc xs)) := by
    have h : w2.ownsRow w.heap.size 5 1 (.slice (some ⟨w.heap.size, 0, none⟩) n (n + m)) n (bc xs) := by simpa using hown2
    exact h
  have HB2 : Hid (Below w.heap.size w w2) := ((Below.refl w.heap.size w).grown HG.out (Nat.le_refl _) (fun k hk => by cases hk)).grown hg2 (HG.out.size) (fun k hk => by simp at hk; omega)
  clear hown2 hg2
  go_wp2
  go_ret
  exact ⟨by simp, HO2.out, HB2.out⟩
end Go.Proofs.Yteloehalobampaa
