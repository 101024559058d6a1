/- A statement's own lists of Ops; what many says of its answer. -/
import Derived.Test.YtfcbdjjbchcpjaaGreatDoorLAwake12
import Derived.Test.YtfcbdjjbchcpjaaGreatDoorLong12
namespace Go.Proofs.YtfcbdjjbchcpjaaGreatDoor.Tq
theorem many_false {t t' : Tr} {s z : Int} {os : List O} {r : Rp} (h : many t s z os = ((r, false), t')) : t' = t ∧ r.err ≠ 0 ∧ r.zxid = 0 := by
  by_cases h16 : 16 < os.length
  · rw [many_long h16] at h
    obtain ⟨h1, h2⟩ := Prod.mk.inj h
    rw [← (Prod.mk.inj h1).1]
    exact ⟨h2.symm, by simp [Rq.fail], rfl⟩
  by_cases h0 : os.length = 0
  · rw [many_nil h0] at h
    obtain ⟨h1, h2⟩ := Prod.mk.inj h
    rw [← (Prod.mk.inj h1).1]
    exact ⟨h2.symm, by simp [Rq.fail], rfl⟩
  cases hb : (turn t s z os).1.2 with
  | true =>
    rw [many_yes (by omega) h0 hb] at h
    rw [h] at hb
    cases hb
  | false =>
    rw [many_no (by omega) h0 hb] at h
    obtain ⟨h1, h2⟩ := Prod.mk.inj h
    cases hk : bad t s z os with
    | none => rw [turn_none hk] at hb; cases hb
    | some k =>
      rw [turn_some hk] at h1
      rw [← (Prod.mk.inj h1).1]
      exact ⟨h2.symm, (bad_lt hk).2, rfl⟩
theorem many_true {t t' : Tr} {s z : Int} {os : List O} {r : Rp} (h : many t s z os = ((r, true), t')) : r = ⟨0, z, 0, -1, says t s z os⟩ ∧ t' = after t s z os ∧ bad t s z os = none ∧ os.length ≤ 16 ∧ os.length ≠ 0 := by
  by_cases h16 : 16 < os.length
  · rw [many_long h16] at h
    cases (Prod.mk.inj (Prod.mk.inj h).1).2
  by_cases h0 : os.length = 0
  · rw [many_nil h0] at h
    cases (Prod.mk.inj (Prod.mk.inj h).1).2
  cases hb : (turn t s z os).1.2 with
  | false =>
    rw [many_no (by omega) h0 hb] at h
    rw [(Prod.mk.inj h).1] at hb
    cases hb
  | true =>
    rw [many_yes (by omega) h0 hb] at h
    cases hk : bad t s z os with
    | some k => rw [turn_some hk] at hb; cases hb
    | none =>
      rw [turn_none hk] at h
      obtain ⟨h1, h2⟩ := Prod.mk.inj h
      exact ⟨(Prod.mk.inj h1).1.symm, h2.symm, rfl, by omega, h0⟩
end Go.Proofs.YtfcbdjjbchcpjaaGreatDoor.Tq
namespace Go.Proofs.YtfcbdjjbchcpjaaGreatDoor
open Go.RowKit

/-- Ops that were handed in lie below what a statement makes. -/
theorem Om12.arg {W w : World} {F : Nat → Prop} {v : Value} {os : List O} (h : Ol W v os) (hb : Below W.heap.size W w) (hF : ∀ k, F k → W.heap.size ≤ k) : Om12 w F v os := by
  refine ⟨h.below hb, fun hne k hk e => ?_⟩
  have h1 : Om12 W (fun _ => False) v os := ⟨h, fun _ _ _ e => e⟩
  have h2 := h1.lt hne hk
  have h3 := hF k e
  omega
theorem great_no {os : List O} (h : greatB os = false) : os.length ≤ 20 ∧ ∀ o ∈ os, o.path.size ≤ 300 ∧ o.data.size ≤ 1100 := by
  unfold greatB at h
  simp only [Bool.or_eq_false_iff, decide_eq_false_iff_not, List.any_eq_false, Bool.or_eq_true, decide_eq_true_eq, not_or] at h
  exact ⟨by omega, fun o ho => by have := h.2 o ho; omega⟩
theorem fine_many {t : Tq.Tr} (h : Fine11 t) : (∀ e ∈ t.l, e.2.names.length ≤ 1000) ∧ t.l.length ≤ 500 := ⟨fun e he => by have := (h.nodes e he).2.many; omega, by have := h.len; have := h.room; omega⟩
end Go.Proofs.YtfcbdjjbchcpjaaGreatDoor
