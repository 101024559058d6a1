/- What StatNames answers. -/
import Derived.Test.YtlgpjgncimcijabLAwake10
import Derived.Test.YtlgpjgncimcijabRise10
namespace Go.Proofs.Ytlgpjgncimcijab.Kq
/-- Names were added, m of them. -/
structure Nm (n : Kn) (m : Nat) (seen : List ByteArray) : Prop where
  kids : n.kids = (m : Int)
  cnt : n.cnt = (m : Int)
  next : n.next = (m : Int)
  len : n.names.length = m
  ver : n.ver = 0
  rises : Rises n.names
  mem : ∀ x, x ∈ n.names ↔ x ∈ seen
theorem more_nat {m : Nat} (h : m ≤ 1000) : more (m : Int) = ((m + 1 : Nat) : Int) := by unfold more; rw [if_neg (by omega)]; omega
theorem Nm.start : Nm (new 1 0 ⟨#[]⟩) 0 [] := ⟨rfl, rfl, rfl, rfl, rfl, List.Pairwise.nil, fun _ => Iff.rfl⟩
theorem Nm.yes {n : Kn} {m : Nat} {seen : List ByteArray} (h : Nm n m seen) {s : ByteArray} (hs : has n.names s = false) (hm : m ≤ 1000) : Nm (add n s) (m + 1) (seen ++ [s]) := by
  have hn : s ∉ n.names := fun e => by rw [has_iff.2 e] at hs; cases hs
  rw [add_yes hs]
  refine ⟨by show more n.kids = _; rw [h.kids, more_nat hm], by show ((n.names.length + 1 : Nat) : Int) = _; rw [h.len], by show more n.next = _; rw [h.next, more_nat hm], by show (ins n.names s).length = _; rw [len_ins, h.len], h.ver, rises_ins h.rises hn, fun x => ?_⟩
  show x ∈ ins n.names s ↔ _
  rw [mem_ins, h.mem, List.mem_append, List.mem_singleton]
  exact or_comm
theorem Nm.no {n : Kn} {m : Nat} {seen : List ByteArray} (h : Nm n m seen) {s : ByteArray} (hs : has n.names s = true) : Nm n m (seen ++ [s]) :=
  ⟨h.kids, h.cnt, h.next, h.len, h.ver, h.rises, fun x => by
    rw [List.mem_append, List.mem_singleton, h.mem]
    constructor
    · exact Or.inl
    · rintro (e | e)
      · exact e
      · rw [e]
        exact (h.mem s).1 (has_iff.1 hs)⟩
theorem has_add {n : Kn} {s : ByteArray} : has (add n s).names s = true := by
  cases h : has n.names s with
  | true => rw [add_no h]; exact h
  | false =>
    rw [add_yes h]
    exact has_iff.2 (mem_ins.2 (Or.inl rfl))
/-- r of m names are gone again. -/
structure Nr (n : Kn) (m r : Nat) (l gone : List ByteArray) : Prop where
  kids : n.kids = ((m + r : Nat) : Int)
  cnt : n.cnt = (n.names.length : Int)
  next : n.next = (m : Int)
  len : n.names.length + r = m
  ver : n.ver = 0
  rises : Rises n.names
  mem : ∀ x, x ∈ n.names ↔ x ∈ l ∧ x ∉ gone
theorem Nm.turn {n : Kn} {m : Nat} {l : List ByteArray} (h : Nm n m l) : Nr n m 0 l [] := ⟨h.kids, by rw [h.cnt, h.len], h.next, h.len, h.ver, h.rises, fun x => by rw [h.mem]; simp⟩
theorem Nr.step {n : Kn} {m r : Nat} {l gone : List ByteArray} (h : Nr n m r l gone) (s : ByteArray) (hm : m ≤ 400) : ∃ r', Nr (remove n s) m r' l (gone ++ [s]) := by
  cases hs : has n.names s with
  | false =>
    have hn : s ∉ n.names := fun e => by rw [has_iff.2 e] at hs; cases hs
    rw [remove_no hs]
    refine ⟨r, h.kids, h.cnt, h.next, h.len, h.ver, h.rises, fun x => ?_⟩
    rw [h.mem, List.mem_append, List.mem_singleton]
    constructor
    · rintro ⟨h1, h2⟩
      refine ⟨h1, fun e => ?_⟩
      rcases e with e | e
      · exact h2 e
      · exact hn ((h.mem s).2 (by rw [← e]; exact ⟨h1, h2⟩))
    · rintro ⟨h1, h2⟩
      exact ⟨h1, fun e => h2 (Or.inl e)⟩
  | true =>
    have hn := has_iff.1 hs
    have hl := len_del h.rises hn
    have h4 := h.len
    rw [remove_yes hs]
    refine ⟨r + 1, by show more n.kids = _; rw [h.kids, more_nat (by omega)]; rfl, by show ((n.names.length - 1 : Nat) : Int) = ((del n.names s).length : Int); rw [hl.1], h.next, by show (del n.names s).length + (r + 1) = m; rw [hl.1]; omega, h.ver, rises_del s h.rises, fun x => ?_⟩
    show x ∈ del n.names s ↔ _
    rw [mem_del, h.mem, List.mem_append, List.mem_singleton]
    constructor
    · rintro ⟨⟨h1, h2⟩, h3⟩
      exact ⟨h1, fun e => e.elim h2 h3⟩
    · rintro ⟨h1, h2⟩
      exact ⟨⟨h1, fun e => h2 (Or.inl e)⟩, fun e => h2 (Or.inr e)⟩
theorem Nr.last {n : Kn} {m r : Nat} {l : List ByteArray} (h : Nr n m r l l) : n.names = [] ∧ r = m := by
  have h1 : n.names = [] := by
    cases hn : n.names with
    | nil => rfl
    | cons a t =>
      have := (h.mem a).1 (by rw [hn]; simp)
      exact absurd this.1 this.2
  have h2 := h.len
  rw [h1] at h2
  simp at h2
  exact ⟨h1, h2⟩
end Go.Proofs.Ytlgpjgncimcijab.Kq
namespace Go.Proofs.Ytlgpjgncimcijab
open Go.RowKit

theorem ss_own {w : World} {B : Nat} {v : Value} {ss : List ByteArray} (h : w.ownsRow B 9 1 v ss.length (sc ss)) : Ss w v ss := by
  rcases h.2 with ⟨rfl, h0⟩ | ⟨g, cap, cur, rfl, hb, _⟩
  · obtain rfl : ss = [] := List.length_eq_zero_iff.1 h0
    exact ⟨_, _, _, rfl, rfl, fun j z h => by simp at h⟩
  · refine ⟨_, _, _, rfl, rfl, fun j z hz => ⟨g, 0, rfl, ?_⟩⟩
    have hj := (List.getElem?_eq_some_iff.1 hz).1
    rw [Nat.zero_add, h.cellAt j (by omega), sc, List.getElem?_map, hz]
    rfl

end Go.Proofs.Ytlgpjgncimcijab
