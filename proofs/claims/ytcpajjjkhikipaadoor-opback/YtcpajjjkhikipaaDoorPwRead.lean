/- What pack.Read and a Reader's inner calls (spoil, take) answer. -/
import Derived.Test.YtcpajjjkhikipaaDoorPwAll
namespace Go.Proofs.YtcpajjjkhikipaaDoor.Pw
open Go.RowKit

/-- What a Reader at block q has left: nil, or bytes that lie in another block. -/
def Lf (w : World) (q : Nat) (v : Value) (xs : List UInt8) : Prop :=
  (v = .slice none 0 0 ∧ xs = []) ∨ ∃ g o c, v = .slice (some ⟨g, o, none⟩) xs.length c ∧ xs.length ≤ c ∧ g < q ∧ ∀ (j : Nat) x, xs[j]? = some x → w.cell? ⟨g, o + j, none⟩ = some (.int .u8 (x.toNat : Int))

/-- A Reader at block q: its two cells. -/
structure Rd (w : World) (q : Nat) (xs : List UInt8) (bad : Bool) : Prop where
  ex : ∃ v, w.cell? ⟨q, 0, none⟩ = some v ∧ Lf w q v xs
  c1 : w.cell? ⟨q, 1, none⟩ = some (.bool bad)
  f0 : w.frozen? ⟨q, 0, none⟩ = false
  f1 : w.frozen? ⟨q, 1, none⟩ = false
  sad : bad = true → xs = []

theorem Rd.lt {w : World} {q : Nat} {xs : List UInt8} {bad : Bool} (h : Rd w q xs bad) : q < w.heap.size := World.block_lt_of_cell? w ⟨q, 1, none⟩ h.c1

/-- Another block's change leaves a Reader's bytes alone, and the Reader where it isn't its own block. -/
theorem Lf.grown {w w' : World} {q r : Nat} {v : Value} {xs : List UInt8} (h : Lf w q v xs) (hg : w.grownBy w' (some r)) (hr : v.ownBlock ≠ some r) : Lf w' q v xs := by
  rcases h with h | ⟨g, o, c, rfl, h1, h2, h4⟩
  · exact Or.inl h
  · exact Or.inr ⟨g, o, c, rfl, h1, h2, fun j x hx => hg.cell (h4 j x hx) hr⟩

theorem Rd.grown {w w' : World} {q r : Nat} {xs : List UInt8} {bad : Bool} (h : Rd w q xs bad) (hg : w.grownBy w' (some r)) (hr : q < r) : Rd w' q xs bad := by
  obtain ⟨v, hc, hl⟩ := h.ex
  have hb := hg.block q h.lt (by simp; omega)
  refine ⟨⟨v, (World.cell?_of_block hb).trans hc, hl.grown hg ?_⟩, (World.cell?_of_block hb).trans h.c1, (World.frozen?_of_block hb).trans h.f0, (World.frozen?_of_block hb).trans h.f1, h.sad⟩
  rcases hl with ⟨rfl, _⟩ | ⟨g, o, c, rfl, _, hgq, _⟩
  · simp [Value.ownBlock]
  · simp [Value.ownBlock]; omega

theorem Rd.below {w w' : World} {q : Nat} {xs : List UInt8} {bad : Bool} (h : Rd w q xs bad) (hb : Below w.heap.size w w') : Rd w' q xs bad :=
  h.grown (grownBy_below (row := some w.heap.size) hb) h.lt

set_option maxRecDepth 20000 in
set_option maxHeartbeats 400000 in
theorem read_any (ao : Option Addr) (n c : Nat) (xs : List UInt8) (w : World) (hn : n = xs.length) (hS : Sl w ao c xs) (hN : n ≤ 100000) :
    Calls Tryd.prog 15 #[.slice ao n c] w fun e w' => ∃ q, e = .returned (.pointer (some ⟨q, 0, none⟩)) ∧ w.heap.size ≤ q ∧ Rd w' q xs false ∧ Below w.heap.size w w' := by
  have HN : Hid (n = xs.length) := hn
  have HS : Hid (Sl w ao c xs) := hS
  clear hn hS
  go_enter Tryd.func15, Tryd.ntmps15
  go_wp2_with fail
  refine (grown_any ao n c 0 _ xs _ rfl HN.out HS.out (by omega)).mono ?_
  rintro e w1 ⟨rfl, hown, hb⟩
  have HO : Hid (w1.ownsRow w.heap.size 5 1 (.slice (some ⟨w.heap.size, 0, none⟩) n (n + 0)) n (bc xs)) := hown
  have HB : Hid (Below w.heap.size w w1) := hb
  clear hown hb
  go_wp2
  go_ret
  have hs := HB.out.size
  have hlt := (HO.out.lt w.heap.size rfl).2
  refine ⟨w1.heap.size, rfl, hs, ⟨⟨.slice (some ⟨w.heap.size, 0, none⟩) n (n + 0), ?_, ?_⟩, ?_, ?_, ?_, fun h => by cases h⟩, HB.out.alloc hs _⟩
  · simp
  · refine Or.inr ⟨w.heap.size, 0, n + 0, by rw [HN.out], by have := HN.out; omega, by omega, fun j x hx => ?_⟩
    have h := (Sl.own HO.out).2.alloc (.cells #[.slice (some ⟨w.heap.size, 0, none⟩) n (n + 0), .bool false] 52)
    have := h.cells _ rfl j (.int .u8 (x.toNat : Int)) (by simp [bc, hx])
    rw [Addr.add_lit] at this
    exact this
  · simp
  · simp only [World.frozen?, heap_alloc_new]; rfl
  · simp only [World.frozen?, heap_alloc_new]; rfl

set_option maxRecDepth 20000 in
set_option maxHeartbeats 400000 in
theorem spoil_any (q : Nat) (xs : List UInt8) (bad : Bool) (w : World) (hR : Rd w q xs bad) :
    Calls Tryd.prog 31 #[.pointer (some ⟨q, 0, none⟩)] w fun e w' => e = .returned (.tuple #[]) ∧ Rd w' q [] true ∧ w.grownBy w' (some q) := by
  obtain ⟨v, hc0, hl⟩ := hR.ex
  have hc1 := hR.c1
  have hf0 := hR.f0
  have hf1 := hR.f1
  clear hl hR
  go_enter Tryd.func31, Tryd.ntmps31
  go_wp2
  go_end0
  refine ⟨rfl, ⟨⟨.slice none 0 0, ?_, Or.inl ⟨rfl, rfl⟩⟩, ?_, ?_, ?_, fun _ => rfl⟩, ?_⟩
  · rw [World.cell?_setCell_other _ _ _ _ (by simp)]
    exact World.cell?_setCell_same _ _ _ hc0
  · refine World.cell?_setCell_same _ _ _ (u := .bool bad) ?_
    rw [World.cell?_setCell_other _ _ _ _ (by simp)]
    exact hc1
  · simpa using hf0
  · simpa using hf1
  · exact grownBy_trans (grownBy_setCell _ ⟨q, 0, none⟩ _) (grownBy_setCell _ ⟨q, 1, none⟩ _)

set_option maxRecDepth 20000 in
set_option maxHeartbeats 400000 in
/-- Fewer bytes are left than are asked for. -/
theorem take_no (q n : Nat) (m : Int) (xs : List UInt8) (bad : Bool) (w : World) (hm : m = n) (hR : Rd w q xs bad) (hn : xs.length < n) :
    Calls Tryd.prog 30 #[.pointer (some ⟨q, 0, none⟩), .int .i64 m] w fun e w' => e = .returned (.slice none 0 0) ∧ Rd w' q [] true ∧ w.grownBy w' (some q) := by
  subst hm
  have HR : Hid (Rd w q xs bad) := hR
  obtain ⟨v, hc0, hl⟩ := hR.ex
  clear hR
  rcases hl with ⟨rfl, rfl⟩ | ⟨g, o, c, rfl, hlc, -, -⟩
  · have h1 : (0 : Int) < n := by simpa using hn
    go_enter Tryd.func30, Tryd.ntmps30
    go_wp2_with fail
    refine (spoil_any q _ _ _ HR.out).mono ?_
    rintro e w1 ⟨rfl, hr, hg⟩
    have HR1 : Hid (Rd w1 q [] true) := hr
    have HG1 : Hid (w.grownBy w1 (some q)) := hg
    clear hr hg hc0
    go_wp2
    go_ret
    exact ⟨rfl, HR1.out, HG1.out⟩
  · obtain ⟨l, hl⟩ : ∃ l, l = xs.length := ⟨_, rfl⟩
    rw [← hl] at hn hlc hc0
    clear hl
    have h1 : (l : Int) < n := by omega
    go_enter Tryd.func30, Tryd.ntmps30
    go_wp2_with fail
    refine (spoil_any q _ _ _ HR.out).mono ?_
    rintro e w1 ⟨rfl, hr, hg⟩
    have HR1 : Hid (Rd w1 q [] true) := hr
    have HG1 : Hid (w.grownBy w1 (some q)) := hg
    clear hr hg hc0
    go_wp2
    go_ret
    exact ⟨rfl, HR1.out, HG1.out⟩

set_option maxRecDepth 20000 in
set_option maxHeartbeats 400000 in
/-- Nothing is left, and nothing is asked for. -/
theorem take_nil (q : Nat) (bad : Bool) (w : World) (hc0 : w.cell? ⟨q, 0, none⟩ = some (.slice none 0 0)) (hR : Rd w q [] bad) :
    Calls Tryd.prog 30 #[.pointer (some ⟨q, 0, none⟩), .int .i64 0] w fun e w' => e = .returned (.slice none 0 0) ∧ Rd w' q [] bad ∧ w.grownBy w' (some q) := by
  have hc1 := hR.c1
  have hf0 := hR.f0
  have hf1 := hR.f1
  clear hR
  go_enter Tryd.func30, Tryd.ntmps30
  go_wp2
  go_ret
  refine ⟨rfl, ⟨⟨.slice none 0 0, ?_, Or.inl ⟨rfl, rfl⟩⟩, ?_, ?_, ?_, fun _ => rfl⟩, grownBy_setCell _ ⟨q, 0, none⟩ _⟩
  · exact World.cell?_setCell_same _ _ _ hc0
  · rw [World.cell?_setCell_other _ _ _ _ (by simp)]
    exact hc1
  · simpa using hf0
  · simpa using hf1

theorem rd_moved {w : World} {q n g l o c : Nat} {v0 : Value} {xs : List UInt8} {bad : Bool} (hc0 : w.cell? ⟨q, 0, none⟩ = some v0) (hc1 : w.cell? ⟨q, 1, none⟩ = some (.bool bad)) (hf0 : w.frozen? ⟨q, 0, none⟩ = false) (hf1 : w.frozen? ⟨q, 1, none⟩ = false)
    (hd : bad = true → xs = []) (hl : l = xs.length) (hgq : g < q) (hlc : l - n ≤ c) (hcells : ∀ (j : Nat) x, (xs.drop n)[j]? = some x → w.cell? ⟨g, o + j, none⟩ = some (.int .u8 (x.toNat : Int))) :
    Rd (w.setCell ⟨q, 0, none⟩ (.slice (some ⟨g, o, none⟩) (l - n) c)) q (xs.drop n) bad := by
  have hlen : (xs.drop n).length = l - n := by rw [List.length_drop, hl]
  refine ⟨⟨_, World.cell?_setCell_same _ _ _ hc0, Or.inr ⟨g, o, c, by rw [hlen], by rw [hlen]; exact hlc, hgq, ?_⟩⟩, ?_, by simpa using hf0, by simpa using hf1, fun h => by rw [hd h]; simp⟩
  · intro j x hx
    rw [World.cell?_setCell_other _ _ _ _ (by intro e; injection e with e1 e2 e3; omega)]
    exact hcells j x hx
  · rw [World.cell?_setCell_other _ _ _ _ (by simp)]
    exact hc1

set_option maxRecDepth 20000 in
set_option maxHeartbeats 400000 in
/-- As many bytes are left as are asked for. -/
theorem take_some (q n g o l c : Nat) (m : Int) (xs : List UInt8) (bad : Bool) (w : World) (hm : m = n) (hR : Rd w q xs bad) (hl : l = xs.length) (hc0 : w.cell? ⟨q, 0, none⟩ = some (.slice (some ⟨g, o, none⟩) l c)) (hlc : l ≤ c) (hgq : g < q)
    (hcells : ∀ (j : Nat) x, xs[j]? = some x → w.cell? ⟨g, o + j, none⟩ = some (.int .u8 (x.toNat : Int))) (hn : n ≤ l) :
    Calls Tryd.prog 30 #[.pointer (some ⟨q, 0, none⟩), .int .i64 m] w fun e w' => e = .returned (.slice (some ⟨g, o, none⟩) n c) ∧ (∀ (j : Nat) x, (xs.take n)[j]? = some x → w'.cell? ⟨g, o + j, none⟩ = some (.int .u8 (x.toNat : Int))) ∧ Rd w' q (xs.drop n) bad ∧ w.grownBy w' (some q) := by
  subst hm
  have hc1 := hR.c1
  have hf0 := hR.f0
  have hf1 := hR.f1
  have HD : Hid (bad = true → xs = []) := hR.sad
  have HC : Hid (∀ (j : Nat) x, xs[j]? = some x → w.cell? ⟨g, o + j, none⟩ = some (.int .u8 (x.toNat : Int))) := hcells
  have HL : Hid (l = xs.length) := hl
  clear hR hl hcells
  have h1 : ¬ (l : Int) < n := by omega
  have h2 : (n : Int) ≤ l := by omega
  have h3 : (n : Int) ≤ c := by omega
  by_cases hcn : c = n
  · go_enter Tryd.func30, Tryd.ntmps30
    go_wp2
    go_ret
    refine ⟨rfl, ?_, rd_moved hc0 hc1 hf0 hf1 HD.out HL.out hgq (by omega) ?_, grownBy_setCell _ ⟨q, 0, none⟩ _⟩
    · intro j x hx
      rw [World.cell?_setCell_other _ _ _ _ (by intro e; injection e with e1 e2 e3; omega)]
      rw [List.getElem?_take] at hx
      split at hx
      · exact HC.out j x hx
      · cases hx
    · intro j x hx
      have := (List.getElem?_eq_some_iff.1 hx).1
      rw [List.length_drop, ← HL.out] at this
      omega
  · go_enter Tryd.func30, Tryd.ntmps30
    go_wp2
    go_ret
    refine ⟨rfl, ?_, rd_moved hc0 hc1 hf0 hf1 HD.out HL.out hgq (by omega) ?_, grownBy_setCell _ ⟨q, 0, none⟩ _⟩
    · intro j x hx
      rw [World.cell?_setCell_other _ _ _ _ (by intro e; injection e with e1 e2 e3; omega)]
      rw [List.getElem?_take] at hx
      split at hx
      · exact HC.out j x hx
      · cases hx
    · intro j x hx
      rw [List.getElem?_drop] at hx
      rw [Nat.add_assoc]
      exact HC.out (n + j) x hx

/-- The bytes that a Reader's take hands out. -/
structure Cut (w : World) (v : Value) (xs : List UInt8) : Prop where
  ex : (v = .slice none 0 0 ∧ xs = []) ∨ ∃ g o c, v = .slice (some ⟨g, o, none⟩) xs.length c ∧ ∀ (j : Nat) x, xs[j]? = some x → w.cell? ⟨g, o + j, none⟩ = some (.int .u8 (x.toNat : Int))

theorem take_yes (q n : Nat) (m : Int) (xs : List UInt8) (bad : Bool) (w : World) (hm : m = n) (hR : Rd w q xs bad) (hn : n ≤ xs.length) :
    Calls Tryd.prog 30 #[.pointer (some ⟨q, 0, none⟩), .int .i64 m] w fun e w' => ∃ v, e = .returned v ∧ Cut w' v (xs.take n) ∧ Rd w' q (xs.drop n) bad ∧ w.grownBy w' (some q) := by
  obtain ⟨v, hc0, hl⟩ := hR.ex
  rcases hl with ⟨rfl, rfl⟩ | ⟨g, o, c, rfl, hlc, hgq, hcells⟩
  · obtain rfl : n = 0 := by simpa using hn
    subst hm
    refine (take_nil q bad w hc0 hR).mono ?_
    rintro e w' ⟨rfl, hr, hg⟩
    exact ⟨_, rfl, ⟨Or.inl ⟨rfl, by simp⟩⟩, by simpa using hr, hg⟩
  · refine (take_some q n g o _ c m xs bad w hm hR rfl hc0 hlc hgq hcells hn).mono ?_
    rintro e w' ⟨rfl, hcs, hr, hg⟩
    exact ⟨_, rfl, ⟨Or.inr ⟨g, o, c, by rw [List.length_take, Nat.min_eq_left hn], hcs⟩⟩, hr, hg⟩

end Go.Proofs.YtcpajjjkhikipaaDoor.Pw
