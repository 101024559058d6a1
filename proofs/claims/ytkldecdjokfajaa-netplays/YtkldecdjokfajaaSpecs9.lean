/- What net's calls are asked to answer, whatever the network is made of (to be proved of the landed code). -/
import Derived.Test.YtkldecdjokfajaaMem9
import Derived.Test.YtkldecdjokfajaaMoved
namespace Go.Proofs.Ytkldecdjokfajaa
open Go.RowKit

/-- A message that is not too great. -/
structure Lite (m : Nq.Ms) : Prop where
  ns : m.ns.length ≤ 2000000
  bs : m.bs.length ≤ 2000000
  rows : ∀ x ∈ m.bs, x.length ≤ 140737488355328
theorem Lite.zero : Lite Nq.Ms.zero := ⟨by simp [Nq.Ms.zero], by simp [Nq.Ms.zero], by simp [Nq.Ms.zero]⟩
theorem Lite.bare (a b c : Int) : Lite ⟨a, b, c, [], []⟩ := ⟨by simp, by simp, by simp⟩

/-- A network as New makes it, what waits not too great. -/
structure FineN (n : Nq.Nt) : Prop where
  nodes : n.nodes ≤ 64
  room : n.room ≤ 65536
  fits : n.l.length ≤ n.room
  lite : ∀ m ∈ n.l, Lite m

/-- A representation of networks: in a world, at an address, this network, in these blocks. -/
abbrev RepN := World → Nat → Nq.Nt → (Nat → Prop) → Prop
/-- Blocks that a call has made. -/
def newer (w : World) : Nat → Prop := fun k => w.heap.size ≤ k

structure Specs9 (LN : RepN) : Prop where
  lt : ∀ {w q n F k}, LN w q n F → F k → k < w.heap.size
  keep : ∀ {w w' : World} {q n F}, LN w q n F → (∀ k, F k → w'.heap[k]? = w.heap[k]?) → LN w' q n F
  new : ∀ (a b : Int) (w : World), Calls Try.prog 9 #[.int .i64 a, .int .i64 b] w fun e w' => Below w.heap.size w w' ∧
    if a < 1 ∨ 64 < a ∨ b < 1 ∨ 65536 < b then e = .returned (.tuple #[.pointer none, .int .i64 1]) else ∃ q F, e = .returned (.tuple #[dptr q, .int .i64 0]) ∧ LN w' q (Nq.made a.toNat b.toNat) F ∧ ∀ k, F k → w.heap.size ≤ k
  send : ∀ (q : Nat) (n : Nq.Nt) (F K : Nat → Prop) (v : Value) (ms : List Nq.Ms) (w : World), LN w q n F → FineN n → Ml w v ms K → (∀ k, K k → ¬ F k) → (∀ k, K k → k < w.heap.size) → ms.length ≤ 1000 → (∀ m ∈ ms, Lite m) →
    Calls Try.prog 10 #[dptr q, v] w fun e w' => ∃ F', e = .returned (.int .i64 (Nq.sent n ms : Int)) ∧ LN w' q (Nq.puts n ms) F' ∧ Moved w w' F F'
  len : ∀ (q : Nat) (n : Nq.Nt) (F : Nat → Prop) (w : World), LN w q n F → FineN n →
    Calls Try.prog 14 #[dptr q] w fun e w' => e = .returned (.int .i64 (n.l.length : Int)) ∧ Below w.heap.size w w'
  at_ : ∀ (q : Nat) (n : Nq.Nt) (F : Nat → Prop) (k : Int) (w : World), LN w q n F → FineN n →
    Calls Try.prog 12 #[dptr q, .int .i64 k] w fun e w' => ∃ a b, e = .returned (.tuple #[mv (Nq.at_ n k) a b, .bool (Nq.has n k)]) ∧ Mp w' (Nq.at_ n k) a b (newer w) ∧ Below w.heap.size w w'
  take : ∀ (q : Nat) (n : Nq.Nt) (F : Nat → Prop) (k : Int) (w : World), LN w q n F → FineN n →
    Calls Try.prog 17 #[dptr q, .int .i64 k] w fun e w' => ∃ F' a b, e = .returned (.tuple #[mv (Nq.at_ n k) a b, .bool (Nq.has n k)]) ∧ Mp w' (Nq.at_ n k) a b (fun j => newer w j ∨ F j) ∧ LN w' q (Nq.lose n k) F' ∧ Moved w w' F F'
  lose : ∀ (q : Nat) (n : Nq.Nt) (F : Nat → Prop) (k : Int) (w : World), LN w q n F → FineN n →
    Calls Try.prog 13 #[dptr q, .int .i64 k] w fun e w' => ∃ F', e = .returned (.bool (Nq.has n k)) ∧ LN w' q (Nq.lose n k) F' ∧ Moved w w' F F'
  copy : ∀ (q : Nat) (n : Nq.Nt) (F : Nat → Prop) (k : Int) (w : World), LN w q n F → FineN n →
    Calls Try.prog 11 #[dptr q, .int .i64 k] w fun e w' => ∃ F', e = .returned (.bool (Nq.mayCopy n k)) ∧ LN w' q (Nq.copy n k) F' ∧ Moved w w' F F'
  cut : ∀ (q : Nat) (n : Nq.Nt) (F : Nat → Prop) (a b : Int) (t : Bool) (w : World), LN w q n F → FineN n →
    Calls Try.prog 21 #[dptr q, .int .i64 a, .int .i64 b, .bool t] w fun e w' => ∃ F', e = .returned (.tuple #[]) ∧ LN w' q (Nq.cutW n a b t) F' ∧ Moved w w' F F'
  heal : ∀ (q : Nat) (n : Nq.Nt) (F : Nat → Prop) (w : World), LN w q n F → FineN n →
    Calls Try.prog 23 #[dptr q] w fun e w' => ∃ F', e = .returned (.tuple #[]) ∧ LN w' q (Nq.heal n) F' ∧ Moved w w' F F'

theorem fine_put {n : Nq.Nt} (h : FineN n) {m : Nq.Ms} (hm : Lite m) : FineN (Nq.put n m) := by
  have h1 := Nq.put_room n m
  refine ⟨by rw [h1.2]; exact h.nodes, by rw [h1.1]; exact h.room, by rw [h1.1]; exact Nq.put_fits m h.fits, fun x hx => ?_⟩
  unfold Nq.put at hx
  split at hx
  · rcases List.mem_append.1 hx with hx | hx
    · exact h.lite x hx
    · simp at hx
      rw [hx]
      exact hm
  · exact h.lite x hx
theorem fine_puts : ∀ {ms : List Nq.Ms} {n : Nq.Nt}, FineN n → (∀ m ∈ ms, Lite m) → FineN (Nq.puts n ms)
  | [], _, h, _ => h
  | m :: _, n, h, hm => fine_puts (n := Nq.put n m) (fine_put h (hm m (by simp))) (fun x hx => hm x (by simp [hx]))
theorem lite_at {n : Nq.Nt} (h : FineN n) (k : Int) : Lite (Nq.at_ n k) := by
  unfold Nq.at_
  split
  · cases hk : n.l[k.toNat]? with
    | none => exact Lite.zero
    | some m => exact h.lite m (List.mem_of_getElem? hk)
  · exact Lite.zero
theorem fine_lose {n : Nq.Nt} (h : FineN n) (k : Int) : FineN (Nq.lose n k) := by
  unfold Nq.lose
  split
  · refine ⟨h.nodes, h.room, ?_, fun x hx => h.lite x (List.mem_of_mem_eraseIdx hx)⟩
    have h1 := h.fits
    have h2 := List.length_eraseIdx_le n.l k.toNat
    show (n.l.eraseIdx k.toNat).length ≤ n.room
    omega
  · exact h
theorem fine_copy {n : Nq.Nt} (h : FineN n) (k : Int) : FineN (Nq.copy n k) := by
  unfold Nq.copy
  split
  · rename_i hc
    refine ⟨h.nodes, h.room, ?_, fun x hx => ?_⟩
    · unfold Nq.mayCopy at hc
      simp only [Bool.and_eq_true, decide_eq_true_eq] at hc
      have := hc.2
      simp
      omega
    · rcases List.mem_append.1 hx with hx | hx
      · exact h.lite x hx
      · simp at hx
        rw [hx]
        exact lite_at h k
  · exact h
theorem fine_cutW {n : Nq.Nt} (h : FineN n) (a b : Int) (t : Bool) : FineN (Nq.cutW n a b t) := by
  unfold Nq.cutW
  split
  · exact ⟨h.nodes, h.room, h.fits, h.lite⟩
  · exact h
theorem fine_heal {n : Nq.Nt} (h : FineN n) : FineN (Nq.heal n) := ⟨h.nodes, h.room, h.fits, h.lite⟩
theorem fine_made {a b : Nat} (ha : a ≤ 64) (hb : b ≤ 65536) : FineN (Nq.made a b) := ⟨ha, hb, Nat.zero_le _, fun m hm => by simp [Nq.made] at hm⟩

/-- A network that a statement has made. -/
structure Mine9 (LN : RepN) (W w : World) (q : Nat) (n : Nq.Nt) (F : Nat → Prop) : Prop where
  ln : LN w q n F
  fine : FineN n
  hi : ∀ k, F k → W.heap.size ≤ k
  below : Below W.heap.size W w

section
variable {LN : RepN} {W w w' : World} {q : Nat} {n n' : Nq.Nt} {F F' : Nat → Prop}
theorem Mine9.step (h : Mine9 LN W w q n F) (hl : LN w' q n' F') (hf : FineN n') (hm : Moved w w' F F') : Mine9 LN W w' q n' F' :=
  ⟨hl, hf, fun k hk => by
    rcases hm.sub k hk with e | e
    · exact h.hi k e
    · exact Nat.le_trans h.below.size e, h.below.trans (hm.below h.below.size h.hi)⟩
theorem Mine9.later (S : Specs9 LN) (h : Mine9 LN W w q n F) (hb : Below w.heap.size w w') : Mine9 LN W w' q n F :=
  ⟨S.keep h.ln (fun k hk => hb.block k (S.lt h.ln hk)), h.fine, h.hi, h.below.trans (hb.mono h.below.size)⟩
theorem mine9_new (S : Specs9 LN) (hW : Below W.heap.size W w) (a b : Int) (ha : 1 ≤ a ∧ a ≤ 64) (hb : 1 ≤ b ∧ b ≤ 65536) :
    Calls Try.prog 9 #[.int .i64 a, .int .i64 b] w fun e w' => ∃ q F, e = .returned (.tuple #[dptr q, .int .i64 0]) ∧ Mine9 LN W w' q (Nq.made a.toNat b.toNat) F := by
  refine (S.new a b w).mono ?_
  rintro e w' ⟨hbl, he⟩
  rw [if_neg (by omega)] at he
  obtain ⟨q, F, rfl, hl, hF⟩ := he
  have hs := hW.size
  exact ⟨q, F, rfl, ⟨hl, fine_made (by omega) (by omega), fun k hk => by have := hF k hk; omega, hW.trans (hbl.mono hs)⟩⟩
theorem mine9_no (S : Specs9 LN) (a b : Int) (h : a < 1 ∨ 64 < a ∨ b < 1 ∨ 65536 < b) (w : World) :
    Calls Try.prog 9 #[.int .i64 a, .int .i64 b] w fun e w' => e = .returned (.tuple #[.pointer none, .int .i64 1]) ∧ Below w.heap.size w w' := by
  refine (S.new a b w).mono ?_
  rintro e w' ⟨hbl, he⟩
  rw [if_pos h] at he
  exact ⟨he, hbl⟩
/-- Messages that lie elsewhere. -/
theorem Mine9.send (S : Specs9 LN) (h : Mine9 LN W w q n F) {K : Nat → Prop} (v : Value) (ms : List Nq.Ms) (hv : Ml w v ms K) (hK : ∀ k, K k → ¬ F k) (hlt : ∀ k, K k → k < w.heap.size) (hl : ms.length ≤ 1000) (hm : ∀ m ∈ ms, Lite m) (z : Nat) (n' : Nq.Nt) (hz : Nq.sent n ms = z) (hn : Nq.puts n ms = n') :
    Calls Try.prog 10 #[dptr q, v] w fun e w' => ∃ F', e = .returned (.int .i64 (z : Int)) ∧ Mine9 LN W w' q n' F' ∧ Moved w w' F F' := by
  refine (S.send q n F K v ms w h.ln h.fine hv hK hlt hl hm).mono ?_
  rintro e w' ⟨F', rfl, hl', hmv⟩
  have hf := fine_puts h.fine hm
  rw [hn] at hl' hf
  rw [hz]
  exact ⟨F', rfl, h.step hl' hf hmv, hmv⟩
theorem Mine9.len (S : Specs9 LN) (h : Mine9 LN W w q n F) (z : Nat) (hz : n.l.length = z) :
    Calls Try.prog 14 #[dptr q] w fun e w' => e = .returned (.int .i64 (z : Int)) ∧ Mine9 LN W w' q n F ∧ Below w.heap.size w w' := by
  refine (S.len q n F w h.ln h.fine).mono ?_
  rintro e w' ⟨rfl, hb⟩
  rw [hz]
  exact ⟨rfl, h.later S hb, hb⟩
theorem Mine9.at_ (S : Specs9 LN) (h : Mine9 LN W w q n F) (k : Int) (m : Nq.Ms) (t : Bool) (hm : Nq.at_ n k = m) (ht : Nq.has n k = t) :
    Calls Try.prog 12 #[dptr q, .int .i64 k] w fun e w' => ∃ a b, e = .returned (.tuple #[mv m a b, .bool t]) ∧ Mp w' m a b (newer w) ∧ Mine9 LN W w' q n F ∧ Below w.heap.size w w' := by
  refine (S.at_ q n F k w h.ln h.fine).mono ?_
  rintro e w' ⟨a, b, rfl, h1, hb⟩
  rw [hm] at h1 ⊢
  rw [ht]
  exact ⟨a, b, rfl, h1, h.later S hb, hb⟩
theorem Mine9.take (S : Specs9 LN) (h : Mine9 LN W w q n F) (k : Int) (m : Nq.Ms) (t : Bool) (n' : Nq.Nt) (hm : Nq.at_ n k = m) (ht : Nq.has n k = t) (hn : Nq.lose n k = n') :
    Calls Try.prog 17 #[dptr q, .int .i64 k] w fun e w' => ∃ F' a b, e = .returned (.tuple #[mv m a b, .bool t]) ∧ Mp w' m a b (fun j => newer w j ∨ F j) ∧ Mine9 LN W w' q n' F' ∧ Moved w w' F F' := by
  refine (S.take q n F k w h.ln h.fine).mono ?_
  rintro e w' ⟨F', a, b, rfl, h1, hl, hmv⟩
  have hf := fine_lose h.fine k
  rw [hn] at hl hf
  rw [hm] at h1 ⊢
  rw [ht]
  exact ⟨F', a, b, rfl, h1, h.step hl hf hmv, hmv⟩
theorem Mine9.lose (S : Specs9 LN) (h : Mine9 LN W w q n F) (k : Int) (t : Bool) (n' : Nq.Nt) (ht : Nq.has n k = t) (hn : Nq.lose n k = n') :
    Calls Try.prog 13 #[dptr q, .int .i64 k] w fun e w' => ∃ F', e = .returned (.bool t) ∧ Mine9 LN W w' q n' F' ∧ Moved w w' F F' := by
  refine (S.lose q n F k w h.ln h.fine).mono ?_
  rintro e w' ⟨F', rfl, hl, hmv⟩
  have hf := fine_lose h.fine k
  rw [hn] at hl hf
  rw [ht]
  exact ⟨F', rfl, h.step hl hf hmv, hmv⟩
theorem Mine9.copy (S : Specs9 LN) (h : Mine9 LN W w q n F) (k : Int) (t : Bool) (n' : Nq.Nt) (ht : Nq.mayCopy n k = t) (hn : Nq.copy n k = n') :
    Calls Try.prog 11 #[dptr q, .int .i64 k] w fun e w' => ∃ F', e = .returned (.bool t) ∧ Mine9 LN W w' q n' F' ∧ Moved w w' F F' := by
  refine (S.copy q n F k w h.ln h.fine).mono ?_
  rintro e w' ⟨F', rfl, hl, hmv⟩
  have hf := fine_copy h.fine k
  rw [hn] at hl hf
  rw [ht]
  exact ⟨F', rfl, h.step hl hf hmv, hmv⟩
theorem Mine9.cut (S : Specs9 LN) (h : Mine9 LN W w q n F) (a b : Int) (t : Bool) (n' : Nq.Nt) (hn : Nq.cutW n a b t = n') :
    Calls Try.prog 21 #[dptr q, .int .i64 a, .int .i64 b, .bool t] w fun e w' => ∃ F', e = .returned (.tuple #[]) ∧ Mine9 LN W w' q n' F' ∧ Moved w w' F F' := by
  refine (S.cut q n F a b t w h.ln h.fine).mono ?_
  rintro e w' ⟨F', rfl, hl, hmv⟩
  have hf := fine_cutW h.fine a b t
  rw [hn] at hl hf
  exact ⟨F', rfl, h.step hl hf hmv, hmv⟩
theorem Mine9.heal (S : Specs9 LN) (h : Mine9 LN W w q n F) (n' : Nq.Nt) (hn : Nq.heal n = n') :
    Calls Try.prog 23 #[dptr q] w fun e w' => ∃ F', e = .returned (.tuple #[]) ∧ Mine9 LN W w' q n' F' ∧ Moved w w' F F' := by
  refine (S.heal q n F w h.ln h.fine).mono ?_
  rintro e w' ⟨F', rfl, hl, hmv⟩
  have hf := fine_heal h.fine
  rw [hn] at hl hf
  exact ⟨F', rfl, h.step hl hf hmv, hmv⟩

/-- A message without numbers and rows, as five cells. -/
def bare (m : Int × Int × Int) : Nq.Ms := ⟨m.1, m.2.1, m.2.2, [], []⟩
def bareCells (m : Int × Int × Int) : List Value := [.int .i64 m.1, .int .i64 m.2.1, .int .i64 m.2.2, .slice none 0 0, .slice none 0 0]
theorem bare_cell : ∀ (ms : List (Int × Int × Int)) (j : Nat) (m : Int × Int × Int) (i : Nat) (u : Value), ms[j]? = some m → (bareCells m)[i]? = some u → (ms.flatMap bareCells)[j * 5 + i]? = some u
  | [], j, m, i, u, h, _ => by simp at h
  | x :: ms, 0, m, i, u, h, hu => by
    simp at h
    subst h
    have hi : i < 5 := (List.getElem?_eq_some_iff.1 hu).1
    rw [List.flatMap_cons, List.getElem?_append_left (by simp [bareCells]; omega)]
    simpa using hu
  | x :: ms, j + 1, m, i, u, h, hu => by
    have h5 : (bareCells x).length = 5 := rfl
    rw [List.flatMap_cons, List.getElem?_append_right (by rw [h5]; omega), h5, show (j + 1) * 5 + i - 5 = j * 5 + i by omega]
    exact bare_cell ms j m i u (by simpa using h) hu
/-- Messages without numbers and rows, just written down. -/
theorem Ml.bare (w : World) (ms : List (Int × Int × Int)) (t : TypeId) : Ml (w.alloc (.cells (ms.flatMap bareCells).toArray t)) (.slice (some ⟨w.heap.size, 0, none⟩) ms.length ms.length) (ms.map Go.Proofs.Ytkldecdjokfajaa.bare) (fun k => k = w.heap.size) := by
  refine ⟨_, _, _, rfl, by simp, (fun e => by cases e), fun j m hm => ?_⟩
  rw [List.getElem?_map] at hm
  cases hx : ms[j]? with
  | none => rw [hx] at hm; cases hm
  | some x =>
    rw [hx] at hm
    simp only [Option.map_some, Option.some.injEq] at hm
    subst hm
    have c : ∀ i u, (bareCells x)[i]? = some u → (w.alloc (.cells (ms.flatMap bareCells).toArray t)).cell? ⟨w.heap.size, 0 + j * 5 + i, none⟩ = some u := fun i u hu => cell?_alloc_at _ _ _ _ _ _ (by rw [List.getElem?_toArray, Nat.zero_add]; exact bare_cell ms j x i u hx hu)
    exact ⟨w.heap.size, 0, _, _, rfl, rfl, c 0 _ rfl, c 1 _ rfl, c 2 _ rfl, c 3 _ rfl, c 4 _ rfl, ⟨Nv.nil _ _, Bv.nil _ _⟩⟩
/-- Messages that a statement has just written down are sent. -/
theorem Mine9.sendBare (S : Specs9 LN) (h : Mine9 LN W w q n F) (ms : List (Int × Int × Int)) (t : TypeId) (hl : ms.length ≤ 1000) (z : Nat) (n' : Nq.Nt) (hz : Nq.sent n (ms.map Go.Proofs.Ytkldecdjokfajaa.bare) = z) (hn : Nq.puts n (ms.map Go.Proofs.Ytkldecdjokfajaa.bare) = n') :
    Calls Try.prog 10 #[dptr q, .slice (some ⟨w.heap.size, 0, none⟩) ms.length ms.length] (w.alloc (.cells (ms.flatMap bareCells).toArray t)) fun e w' => ∃ F', e = .returned (.int .i64 (z : Int)) ∧ Mine9 LN W w' q n' F' := by
  have hb : Below w.heap.size w (w.alloc (.cells (ms.flatMap bareCells).toArray t)) := (Below.refl _ w).alloc (Nat.le_refl _) _
  refine ((h.later S hb).send S _ _ (Ml.bare w ms t) (fun k hk hF => ?_) (fun k hk => ?_) (by simpa using hl) (fun m hm => ?_) z n' hz hn).mono ?_
  · have := S.lt h.ln hF
    omega
  · have h2 : (w.alloc (.cells (ms.flatMap bareCells).toArray t)).heap.size = w.heap.size + 1 := by simp
    omega
  · obtain ⟨x, _, rfl⟩ := List.mem_map.1 hm
    exact Lite.bare _ _ _
  · rintro e w' ⟨F', rfl, h1, _⟩
    exact ⟨F', rfl, h1⟩
end
end Go.Proofs.Ytkldecdjokfajaa
