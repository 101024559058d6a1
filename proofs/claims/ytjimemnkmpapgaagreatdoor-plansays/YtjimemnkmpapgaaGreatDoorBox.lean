/- Ops and requests that were boxed; sizes of what may be: for the program and the reference alike. -/
import Derived.Test.YtjimemnkmpapgaaGreatDoorPlainO
import Derived.Test.YtjimemnkmpapgaaGreatDoorTakeAt
import Derived.Deep.DeepCutAuto
namespace Go.Proofs.YtjimemnkmpapgaaGreatDoor
open Go.RowKit

/-- The five cells of an Op that was boxed. -/
structure Box5 (w : World) (q : Nat) (o : O) : Prop where
  c0 : w.cell? ⟨q, 0, none⟩ = some (.int .i64 o.kind)
  c1 : w.cell? ⟨q, 1, none⟩ = some (.string o.path)
  c2 : w.cell? ⟨q, 2, none⟩ = some (.string o.data)
  c3 : w.cell? ⟨q, 3, none⟩ = some (.int .i64 o.ver)
  c4 : w.cell? ⟨q, 4, none⟩ = some (.int .i64 o.flags)

theorem Box5.below {w w' : World} {q : Nat} {o : O} (h : Box5 w q o) (hb : Below w.heap.size w w') : Box5 w' q o :=
  ⟨Below.kept hb h.c0, Below.kept hb h.c1, Below.kept hb h.c2, Below.kept hb h.c3, Below.kept hb h.c4⟩

theorem Box5.made (w : World) (o : O) (t : TypeId) : Box5 (w.alloc (.cells #[.int .i64 o.kind, .string o.path, .string o.data, .int .i64 o.ver, .int .i64 o.flags] t)) w.heap.size o :=
  ⟨cell?_alloc_at _ _ _ _ _ _ rfl, cell?_alloc_at _ _ _ _ _ _ rfl, cell?_alloc_at _ _ _ _ _ _ rfl, cell?_alloc_at _ _ _ _ _ _ rfl, cell?_alloc_at _ _ _ _ _ _ rfl⟩

theorem empty_size (d : ByteArray) : d.toList.isEmpty = decide (d.size = 0) := by
  rw [ByteArray.toList_eq]
  have h : d.size = d.data.toList.length := rfl
  rw [h]
  cases d.data.toList <;> simp

/-- The three cells of a request that was boxed. -/
structure Box3 (w : World) (q : Nat) (s n : Int) (u : Value) : Prop where
  c0 : w.cell? ⟨q, 0, none⟩ = some (.int .i64 s)
  c1 : w.cell? ⟨q, 1, none⟩ = some (.int .i64 n)
  c2 : w.cell? ⟨q, 2, none⟩ = some u

theorem Box3.below {w w' : World} {q : Nat} {s n : Int} {u : Value} (h : Box3 w q s n u) (hb : Below w.heap.size w w') : Box3 w' q s n u :=
  ⟨Below.kept hb h.c0, Below.kept hb h.c1, Below.kept hb h.c2⟩

theorem Box3.made (w : World) (s n : Int) (u : Value) (t : TypeId) : Box3 (w.alloc (.cells #[.int .i64 s, .int .i64 n, u] t)) w.heap.size s n u :=
  ⟨cell?_alloc_at _ _ _ _ _ _ rfl, cell?_alloc_at _ _ _ _ _ _ rfl, cell?_alloc_at _ _ _ _ _ _ rfl⟩

/-- Texts that can be. -/
def Sane (os : List O) : Prop := ∀ o ∈ os, o.path.size ≤ maxLen ∧ o.data.size ≤ maxLen

theorem any_take {os : List O} {k : Nat} {o : O} (h : os[k]? = some o) (h0 : ((os.take k).any fun o => decide (5 ≤ o.kind)) = false) : (5 ≤ o.kind → (os.any fun o => decide (5 ≤ o.kind)) = true) ∧ (¬ 5 ≤ o.kind → ((os.take (k + 1)).any fun o => decide (5 ≤ o.kind)) = false) := by
  constructor
  · intro hk
    exact any_yes h (decide_eq_true hk)
  · intro hk
    rw [List.take_add_one, h, List.any_append, h0]
    simp
    omega

theorem Box5.all {w : World} {q : Nat} {o : O} (h : Box5 w q o) : w.cell? ⟨q, 0, none⟩ = some (.int .i64 o.kind) ∧ w.cell? ⟨q, 1, none⟩ = some (.string o.path) ∧ w.cell? ⟨q, 2, none⟩ = some (.string o.data) ∧ w.cell? ⟨q, 3, none⟩ = some (.int .i64 o.ver) ∧ w.cell? ⟨q, 4, none⟩ = some (.int .i64 o.flags) := ⟨h.c0, h.c1, h.c2, h.c3, h.c4⟩

theorem Box3.all {w : World} {q : Nat} {s n : Int} {u : Value} (h : Box3 w q s n u) : w.cell? ⟨q, 0, none⟩ = some (.int .i64 s) ∧ w.cell? ⟨q, 1, none⟩ = some (.int .i64 n) ∧ w.cell? ⟨q, 2, none⟩ = some u := ⟨h.c0, h.c1, h.c2⟩

theorem obytes_len {o : O} (h : o.path.size ≤ 200 ∧ o.data.size ≤ 1000) : (Oq.obytes o).length ≤ 1300 := by
  unfold Oq.obytes Pk.txt
  have h1 : o.path.data.toList.length = o.path.size := rfl
  have h2 : o.data.data.toList.length = o.data.size := rfl
  simp only [List.length_append, Pk.be8_len, h1, h2]
  omega

theorem flat_small {os : List O} (h : ∀ o ∈ os, o.path.size ≤ 200 ∧ o.data.size ≤ 1000) : (os.flatMap Oq.obytes).length ≤ 1300 * os.length := by
  induction os with
  | nil => simp
  | cons o os ih =>
    have h1 := obytes_len (h o (by simp))
    have h2 := ih (fun x hx => h x (by simp [hx]))
    rw [List.flatMap_cons, List.length_append, List.length_cons]
    omega

/-- One that may has no long texts. -/
theorem good_sizes {o : O} (h : Oq.good o = 0) : o.path.size ≤ 200 ∧ o.data.size ≤ 1000 := by
  unfold Oq.good at h
  split at h
  · cases h
  · rename_i h1
    split at h
    · cases h
    · rename_i h2
      have h3 := (Oq.head_no (by simpa using h1)).2.2.1
      have h4 := (Pl.good_parts h3).2.2
      have h5 : o.path.data.toList.length = o.path.size := rfl
      exact ⟨by omega, by omega⟩

theorem firstBad_none {os : List O} (h : Oq.firstBad os = 0) : ∀ o ∈ os, Oq.good o = 0 := by
  induction os with
  | nil => intro o ho; cases ho
  | cons x os ih =>
    intro o ho
    unfold Oq.firstBad at h
    split at h
    · rename_i h1
      rcases List.mem_cons.1 ho with rfl | ho
      · exact h1
      · exact ih h o ho
    · rename_i h1
      exact absurd h h1

theorem may_sizes {s n : Int} {os : List O} (h : Oq.may s n os = 0) : 1 ≤ s ∧ 1 ≤ n ∧ 1 ≤ os.length ∧ os.length ≤ 16 ∧ ∀ o ∈ os, o.path.size ≤ 200 ∧ o.data.size ≤ 1000 := by
  unfold Oq.may at h
  split at h
  · cases h
  · split at h
    · cases h
    · split at h
      · rename_i h1 h2 h3
        exact absurd h h3
      · rename_i h1 h2 h3
        have h4 : Oq.firstBad os = 0 := Decidable.not_not.1 h3
        exact ⟨by omega, by omega, by omega, by omega, fun o ho => good_sizes (firstBad_none h4 o ho)⟩

theorem bytes_len {s n : Int} {os : List O} (h : Oq.may s n os = 0) : (Oq.bytes s n os).length ≤ 50000 := by
  have h1 := may_sizes h
  have h2 := flat_small h1.2.2.2.2
  unfold Oq.bytes
  simp only [List.length_append, Pk.be8_len]
  omega

/-- Three requests that were boxed. -/
def S6 (q0 q1 q8 : Nat) (s n s' n' : Int) (u u' u8 : Value) (w : World) : Prop :=
  (w.cell? ⟨q0, 0, none⟩ = some (.int .i64 s) ∧ w.cell? ⟨q0, 1, none⟩ = some (.int .i64 n) ∧ w.cell? ⟨q0, 2, none⟩ = some u) ∧
  (w.cell? ⟨q1, 0, none⟩ = some (.int .i64 s') ∧ w.cell? ⟨q1, 1, none⟩ = some (.int .i64 n') ∧ w.cell? ⟨q1, 2, none⟩ = some u') ∧
  (w.cell? ⟨q8, 0, none⟩ = some (.int .i64 s) ∧ w.cell? ⟨q8, 1, none⟩ = some (.int .i64 n) ∧ w.cell? ⟨q8, 2, none⟩ = some u8)

theorem S6.of {q0 q1 q8 : Nat} {s n s' n' : Int} {u u' u8 : Value} {w : World} (h : Box3 w q0 s n u) (h' : Box3 w q1 s' n' u') (h8 : Box3 w q8 s n u8) : S6 q0 q1 q8 s n s' n' u u' u8 w := ⟨h.all, h'.all, h8.all⟩
theorem S6.drew {q0 q1 q8 : Nat} {s n s' n' : Int} {u u' u8 : Value} {w : World} (h : S6 q0 q1 q8 s n s' n' u u' u8 w) : S6 q0 q1 q8 s n s' n' u u' u8 w.drew := h

end Go.Proofs.YtjimemnkmpapgaaGreatDoor
