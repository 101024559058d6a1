/- TreeVersions: its walk. -/
import Derived.Test.YtoacepebnbaofabDoorLAwake11
import Derived.Test.YtoacepebnbaofabDoorBas
namespace Go.Proofs.YtoacepebnbaofabDoor.Tq
open Kq
theorem pA_good : Pl.goodB pA.data.toList = true := by kernel_rfl
theorem pA_up : up pA = none := by kernel_rfl
/-- A tree of one node, `/a`, of this version. -/
structure Vs (t : Tr) (v : Nat) : Prop where
  room : t.room = 10
  one : ∃ n, t.l = [(pA, n)] ∧ n.ver = (v : Int) ∧ n.names = []
  fine : Fine11 t
theorem find_one {n : Kn} : find [(pA, n)] pA = some n := by rw [find_cons, if_pos rfl]
theorem Vs.few {t : Tr} {v : Nat} (h : Vs t v) : Few t 0 := fun e he => by
  obtain ⟨n, h1, _, h3⟩ := h.one
  rw [h1] at he
  simp at he
  rw [he, h3]
  exact Nat.le_refl _
theorem vs_made {z : Int} (hz : 0 ≤ z) : ∃ x t, doo ⟨10, []⟩ (mk pA 0) 1 z = (x, t) ∧ x.err = 0 ∧ x.names = [] ∧ Vs t 0 := by
  have e : doo ⟨10, []⟩ (mk pA 0) 1 z = (told pA ⟨#[]⟩ [] (new z 0 ⟨#[]⟩), ⟨10, [(pA, new z 0 ⟨#[]⟩)]⟩) := by
    rw [doo_top pA_good (Or.inl rfl) pA_up (by decide) hz, make_yes (by rfl) (by decide)]
    rfl
  refine ⟨_, _, e, rfl, rfl, rfl, ⟨_, rfl, rfl, rfl⟩, ?_⟩
  have h := fine_doo (o := mk pA 0) (s := 1) (z := z) (fine11_new (n := 10) (by decide)) ((few_new 10).more (by decide))
  rw [e] at h
  exact h
theorem Vs.set {t : Tr} {v : Nat} (h : Vs t v) (hv : v < 2147483647) : ∃ x t', doo t (st pA ⟨#[]⟩ (v : Int)) 1 2 = (x, t') ∧ x.err = 0 ∧ x.names = [] ∧ Vs t' (v + 1) := by
  obtain ⟨n, h1, h2, h3⟩ := h.one
  have hf : find t.l pA = some n := by rw [h1]; exact find_one
  have e := doo_set (d := ⟨#[]⟩) (v := (v : Int)) (s := 1) (z := 2) pA_good (by decide) (by omega) (by decide) (by decide) hf (Or.inr h2.symm)
  have hfi := fine_doo (o := st pA ⟨#[]⟩ (v : Int)) (s := 1) (z := 2) h.fine (h.few.more (by decide))
  rw [e] at hfi
  refine ⟨_, _, e, rfl, rfl, h.room, ⟨write n 2 ⟨#[]⟩, ?_, ?_, h3⟩, hfi⟩
  · show Tq.set t.l pA _ = _
    rw [h1]
    unfold Tq.set
    simp
  · show more n.ver = ((v + 1 : Nat) : Int)
    rw [h2]
    unfold more
    rw [if_neg (by omega)]
    omega
theorem Vs.set_no {t : Tr} {v : Nat} (h : Vs t v) {a : Int} (h0 : 0 ≤ a) (ha : a ≠ (v : Int)) : doo t (st pA ⟨#[]⟩ a) 1 2 = (fail 6, t) := by
  obtain ⟨n, h1, h2, h3⟩ := h.one
  have hf : find t.l pA = some n := by rw [h1]; exact find_one
  exact doo_set_no pA_good (by decide) (by omega) (by decide) (by decide) hf (by omega) (by omega)
theorem Vs.del {t : Tr} {v : Nat} (h : Vs t v) : doo t (dl pA (v : Int)) 1 2 = (gone pA, ⟨10, []⟩) := by
  obtain ⟨n, h1, h2, h3⟩ := h.one
  have hf : find t.l pA = some n := by rw [h1]; exact find_one
  rw [doo_del pA_good (by omega) (by decide) (by decide) hf (Or.inr h2.symm) h3]
  have e1 : orphan (Tq.del t.l pA) pA = [] := by
    unfold orphan
    rw [pA_up, h1]
    unfold Tq.del
    simp
  rw [e1]
  obtain ⟨r, l⟩ := t
  have hr : r = 10 := h.room
  rw [hr]
theorem Vs.exists_ {t : Tr} {v : Nat} (h : Vs t v) : ∃ x, doo t (ex pA) 1 4 = (x, t) ∧ x.err = 0 ∧ x.names = [] ∧ x.ver = (v : Int) := by
  obtain ⟨n, h1, h2, h3⟩ := h.one
  have hf : find t.l pA = some n := by rw [h1]; exact find_one
  exact ⟨_, doo_ex pA_good (by decide) (by decide) hf, rfl, rfl, h2⟩
end Go.Proofs.YtoacepebnbaofabDoor.Tq
namespace Go.Proofs.YtoacepebnbaofabDoor
open Go.RowKit

theorem field_err (x : X) (a : Option Addr) (k c : Nat) (w : World) : (Instr.field 32 (.agg #[.int .i64 x.err, .string x.path, .string x.data, .slice a k c, .int .i64 x.made, .int .i64 x.changed, .int .i64 x.ver, .int .i64 x.kids, .int .i64 x.owner, .int .i64 x.len, .int .i64 x.cnt]) 0).run Tryd.prog w = .ok (.int .i64 x.err) w := by kernel_rfl
theorem fit_st {p d : ByteArray} {v : Int} (hp : p.size ≤ maxLen) (hd : d.size ≤ maxLen) (hv : -9223372036854775808 ≤ v ∧ v ≤ 9223372036854775807) : OFit (Tq.st p d v) := ⟨by simp [Tq.st], hp, hd, hv, by simp [Tq.st]⟩
theorem fit_dl {p : ByteArray} {v : Int} (hp : p.size ≤ maxLen) (hv : -9223372036854775808 ≤ v ∧ v ≤ 9223372036854775807) : OFit (Tq.dl p v) := ⟨by simp [Tq.dl], hp, by simp [Tq.dl, maxLen, ByteArray.size], hv, by simp [Tq.dl]⟩
theorem fit_ex {p : ByteArray} (hp : p.size ≤ maxLen) : OFit (Tq.ex p) := ⟨by simp [Tq.ex], hp, by simp [Tq.ex, maxLen, ByteArray.size], by simp [Tq.ex], by simp [Tq.ex]⟩
theorem pA_size : Tq.pA.size ≤ maxLen := by unfold maxLen; decide

end Go.Proofs.YtoacepebnbaofabDoor
