/- What snap's calls are asked to answer (to be proved of the landed code); what is asked of a tree that is only read. -/
import Derived.Test.YtpidafpaffpnaaaGreatDoorPlainG14
import Derived.Test.YtpidafpaffpnaaaGreatDoorSpecs11
import Derived.Test.YtpidafpaffpnaaaGreatDoorSpecB10
namespace Go.Proofs.YtpidafpaffpnaaaGreatDoor
open Go.RowKit

/-- Node, Paths and Len change nothing that was there. -/
structure SpecQ14 (LT : Rep11) : Prop where
  node : ∀ (q : Nat) (t : Tq.Tr) (F : Nat → Prop) (p : ByteArray) (w : World), LT w q t F → Fine11 t → p.size ≤ maxLen →
    Calls Tryz.prog 45 #[dptr q, .string p] w fun e w' => NodeP t p (fun k => k < w.heap.size) e w' ∧ Below w.heap.size w w'
  paths : ∀ (q : Nat) (t : Tq.Tr) (F : Nat → Prop) (w : World), LT w q t F → Fine11 t →
    Calls Tryz.prog 71 #[dptr q] w fun e w' => ∃ v, e = .returned v ∧ Sq w' v (Tq.keys t.l) ∧ Off11 (fun k => k < w.heap.size) v ∧ Below w.heap.size w w'
  len : ∀ (q : Nat) (t : Tq.Tr) (F : Nat → Prop) (w : World), LT w q t F →
    Calls Tryz.prog 21 #[dptr q] w fun e w' => e = .returned (.int .i64 (t.l.length : Int)) ∧ Below w.heap.size w w'
/-- What Get leaves. -/
def GetP14 (LT : Rep11) (w : World) (r : Int × Option Tq.Tr) (e : Ending) (w' : World) : Prop :=
  (r.2 = none → e = .returned (.tuple #[.pointer none, .int .i64 r.1])) ∧
  (∀ t, r.2 = some t → ∃ q F, e = .returned (.tuple #[dptr q, .int .i64 r.1]) ∧ LT w' q t F ∧ Fine11 t ∧ ∀ k, F k → w.heap.size ≤ k) ∧ Below w.heap.size w w'
structure SpecS14 (LT : Rep11) : Prop where
  put : ∀ (q : Nat) (t : Tq.Tr) (F : Nat → Prop) (w : World), LT w q t F → Fine11 t → (∀ e ∈ t.l, e.2.data.size ≤ 2000) →
    Calls Tryz.prog 40 #[dptr q] w fun e w' => ∃ a n c, e = .returned (.slice a n c) ∧ w'.ownsRow w.heap.size 5 1 (.slice a n c) n (bc (Tq.image t.l)) ∧ Below w.heap.size w w'
  get : ∀ (v : Value) (ys : List UInt8) (room : Int) (w : World), Bs w v ys → ys.length ≤ 200000 → Pa.Std w →
    Calls Tryz.prog 44 #[v, .int .i64 room] w (GetP14 LT w (Tq.getT ys room))
  same : ∀ (q : Nat) (t : Tq.Tr) (F : Nat → Prop) (q2 : Nat) (t2 : Tq.Tr) (F2 : Nat → Prop) (w : World), LT w q t F → Fine11 t → LT w q2 t2 F2 → Fine11 t2 →
    Calls Tryz.prog 41 #[dptr q, dptr q2] w (BoolP (t.l = t2.l) w)

/-- A node's cells, one by one. -/
theorem k14_all {w : World} {q : Nat} {n : Kq.Kn} {u : Value} {t : TypeId} (h : Cb w q (k10 n u) t) : w.cell? ⟨q, 0, none⟩ = some (.int .i64 n.made) ∧ w.cell? ⟨q, 1, none⟩ = some (.int .i64 n.changed) ∧ w.cell? ⟨q, 2, none⟩ = some (.int .i64 n.ver) ∧ w.cell? ⟨q, 3, none⟩ = some (.int .i64 n.kids) ∧ w.cell? ⟨q, 4, none⟩ = some (.int .i64 n.owner) ∧ w.cell? ⟨q, 5, none⟩ = some (.int .i64 n.len) ∧ w.cell? ⟨q, 6, none⟩ = some (.int .i64 n.cnt) ∧ w.cell? ⟨q, 7, none⟩ = some (.string n.data) ∧ w.cell? ⟨q, 8, none⟩ = some (.int .i64 n.next) ∧ w.cell? ⟨q, 9, none⟩ = some u :=
  ⟨(h.cell 0).trans rfl, (h.cell 1).trans rfl, (h.cell 2).trans rfl, (h.cell 3).trans rfl, (h.cell 4).trans rfl, (h.cell 5).trans rfl, (h.cell 6).trans rfl, (h.cell 7).trans rfl, (h.cell 8).trans rfl, (h.cell 9).trans rfl⟩
theorem Tq.at14 {t : Tq.Tr} (hf : Fine11 t) {k : Nat} (hk : k < t.l.length) : ∃ p n, t.l[k]? = some (p, n) ∧ (Tq.keys t.l)[k]? = some p ∧ Tq.find t.l p = some n ∧ p.size ≤ maxLen ∧ (p, n) ∈ t.l ∧ p.size ≤ 200 := by
  obtain ⟨e, he⟩ : ∃ e, t.l[k]? = some e := ⟨_, List.getElem?_eq_getElem hk⟩
  obtain ⟨p, n⟩ := e
  have hm := List.mem_of_getElem? he
  have hp := Tq.len_good (hf.nodes _ hm).1
  simp only [] at hp
  exact ⟨p, n, he, by unfold Tq.keys; rw [List.getElem?_map, he]; rfl, Tq.find_of hf.rise hm, by unfold maxLen; omega, hm, hp⟩
/-- 'append(s, x...)': bytes wherever they lie, behind what the call owns; where it lies then. -/
theorem append_bs14 {ops : Array Oper} {rest : List Oper} {o : Oper} {a : Act} {Q : Exit → Act → World → Prop} (hgd : o.guard = none) (s x : Operand)
    (ho : o.op = .call { callee := .builtin .append, args := #[s, x], argTypes := #[82, 82] })
    (B : Nat) (v u : Value) (n : Nat) (xs ys : List UInt8) (w : World) (hs : a.eval s = v) (hx : a.eval x = u) (hown : w.ownsRow B 5 1 v n (bc xs)) (hB : B ≤ w.heap.size) (hb : Bs w u ys) (hN : n + ys.length ≤ 1000000000)
    (h : ∀ v' w', w'.ownsRow B 5 1 v' (n + ys.length) (bc (xs ++ ys)) → Below B w w' → w.grownBy w' v.ownBlock → (v'.ownBlock = v.ownBlock ∨ v'.ownBlock = some w.heap.size) → wpList Tryz.prog ops Q rest (a.put o.dst v') w') : wpList Tryz.prog ops Q (o :: rest) a w := by
  obtain ⟨i0, hi, hz0, hz1, hz2⟩ := info_parts infoByte
  obtain ⟨ao, m, c, rfl, hm, hsl⟩ := hb
  cases ao with
  | none =>
    obtain ⟨h0, rfl⟩ := hsl.nil rfl
    obtain rfl : ys = [] := List.length_eq_zero_iff.1 h0
    obtain rfl : m = 0 := hm
    exact wpList_append_own_none hgd s x 82 ho B 5 i0 1 Tryz.underlying82 hi v n (bc xs) hs hown hx (h _ _ (by simpa using hown) (Below.refl _ w) (World.grownBy.refl _ _) (Or.inl rfl))
  | some ad =>
    subst hm
    refine wpList_plain hgd fun _ hK => ?_
    obtain ⟨v', w', hr, h2, h3, h4, h5⟩ := run_append_own_at (P := Tryz.prog) w B 82 o.type 5 i0 (.int .u8 0) 1 1 Tryz.underlying82 hi hz0 hz1 hz2 rfl (by decide) v n (bc xs) hown ad ys.length c (bc ys) (by rw [bc_len]; omega) (hsl.cells ad rfl) (bc_one _) (by unfold maxLen; omega) (by omega) hB
    unfold Oper.wp execOp
    simp only [ho, resolve, invoke, builtin, Sem.run_bind, Sem.run_pure, Result.andThen_ok, List.map_toArray, List.map_cons, List.map_nil, hs, hx, hr]
    exact hK _ _ (h v' w' (by rw [bc_app]; exact h2) ((Below.refl _ w).grown h3 hB (fun k hk => (hown.lt k hk).1)) h3 h5)
end Go.Proofs.YtpidafpaffpnaaaGreatDoor
