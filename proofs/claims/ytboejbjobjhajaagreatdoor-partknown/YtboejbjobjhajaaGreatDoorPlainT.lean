/- Texts in their order, each once: plain reckoning; Ops behind Ops. -/
import Derived.Test.YtboejbjobjhajaaGreatDoorPln
namespace Go.Proofs.YtboejbjobjhajaaGreatDoor.Ts

def Rises (l : List (List UInt8)) : Prop := l.Pairwise fun a b => Op.bytesLess a b = true

end Go.Proofs.YtboejbjobjhajaaGreatDoor.Ts

namespace Go.Proofs.YtboejbjobjhajaaGreatDoor
open Go.RowKit

theorem oc_len (o : O) : (oc o).length = 5 := rfl

theorem flat_get : ∀ (os : List O) (j : Nat), (os.flatMap oc)[j]? = (os[j / 5]?).bind fun o => (oc o)[j % 5]?
  | [], j => by simp
  | o :: os, j => by
    rw [List.flatMap_cons]
    by_cases hj : j < 5
    · have e1 : j / 5 = 0 := by omega
      have e2 : j % 5 = j := by omega
      rw [List.getElem?_append_left (by rw [oc_len]; exact hj), e1, e2]
      rfl
    · have e1 : j / 5 = (j - 5) / 5 + 1 := by omega
      have e2 : j % 5 = (j - 5) % 5 := by omega
      rw [List.getElem?_append_right (by rw [oc_len]; omega), oc_len, flat_get os (j - 5), e1, e2, List.getElem?_cons_succ]

theorem flat_len5 (os : List O) : (os.flatMap oc).length = os.length * 5 := by
  induction os with
  | nil => rfl
  | cons o os ih => rw [List.flatMap_cons, List.length_append, oc_len, ih, List.length_cons]; omega

theorem flat_one (os : List O) : ∀ u ∈ os.flatMap oc, u.oneCell' = true := by
  intro u hu
  obtain ⟨o, _, ho⟩ := List.mem_flatMap.1 hu
  simp [oc] at ho
  rcases ho with rfl | rfl | rfl | rfl | rfl <;> rfl

theorem infoOp : (Tryz.prog.info? 30).map (fun i => (i.zero, i.size, i.bytes)) = some (some (.agg #[.int .i64 0, .string ⟨#[]⟩, .string ⟨#[]⟩, .int .i64 0, .int .i64 0]), 5, 56) := by kernel_rfl

theorem Ol.own {w : World} {B : Nat} {v : Value} {os : List O} (h : w.ownsRow B 30 5 v os.length (os.flatMap oc)) : Ol w v os := by
  rcases h.2 with ⟨rfl, h0⟩ | ⟨g, cap, cur, rfl, _, _, hn, _⟩
  · exact ⟨none, 0, 0, rfl, h0.symm, Nat.le_refl _, fun _ => rfl, fun j o ho => by
      have := (List.getElem?_eq_some_iff.1 ho).1
      omega⟩
  · refine ⟨some ⟨g, 0, none⟩, os.length, cap, rfl, rfl, hn, fun e => (by cases e), fun j o ho => ⟨g, 0, rfl, fun i u hu => ?_⟩⟩
    have hj := (List.getElem?_eq_some_iff.1 ho).1
    have hi : i < 5 := (List.getElem?_eq_some_iff.1 hu).1
    rw [Nat.zero_add, h.cellAt (j * 5 + i) (by omega), flat_get]
    have e1 : (j * 5 + i) / 5 = j := by omega
    have e2 : (j * 5 + i) % 5 = i := by omega
    rw [e1, e2, ho]
    exact hu

theorem append_ops {ops : Array Oper} {rest : List Oper} {o : Oper} {a : Act} {Q : Exit → Act → World → Prop} (hgd : o.guard = none) (s x : Operand)
    (ho : o.op = .call { callee := .builtin .append, args := #[s, x], argTypes := #[39, 39] })
    (B : Nat) (v u : Value) (ls ms : List O) (w : World) (hs : a.eval s = v) (hx : a.eval x = u) (hown : w.ownsRow B 30 5 v ls.length (ls.flatMap oc)) (hB : B ≤ w.heap.size) (hb : Ol w u ms) (hN : ls.length + ms.length ≤ 1000)
    (h : ∀ v' w', w'.ownsRow B 30 5 v' (ls ++ ms).length ((ls ++ ms).flatMap oc) → Below B w w' → wpList Tryz.prog ops Q rest (a.put o.dst v') w') : wpList Tryz.prog ops Q (o :: rest) a w := by
  obtain ⟨i0, hi, hz0, hz1, hz2⟩ := info_parts infoOp
  obtain ⟨ao, m, c, rfl, hm, hmc, hnil, hcs⟩ := hb
  cases ao with
  | none =>
    have hc0 := hnil rfl
    subst hc0
    have hm0 : m = 0 := by omega
    subst hm0
    obtain rfl : ms = [] := List.length_eq_zero_iff.1 hm.symm
    exact wpList_append_own_none hgd s x 39 ho B 30 i0 5 Tryz.underlying39 hi v ls.length (ls.flatMap oc) hs hown hx (h _ _ (by simpa using hown) (Below.refl _ w))
  | some ad =>
    subst hm
    refine wpList_append_own _ hgd s x 39 ho B 30 i0 (.agg #[.int .i64 0, .string ⟨#[]⟩, .string ⟨#[]⟩, .int .i64 0, .int .i64 0]) 5 56 Tryz.underlying39 hi hz0 hz1 hz2 rfl (by decide) v ls.length (ls.flatMap oc) hs hown ad ms.length c (ms.flatMap oc) hx (flat_len5 ms) ?_ (flat_one ms) (by unfold maxLen; omega) (by omega) hB ?_
    · intro j y hy
      rw [flat_get] at hy
      obtain ⟨o2, ho2, hy2⟩ := Option.bind_eq_some_iff.1 hy
      obtain ⟨g, b, hab, hcell⟩ := hcs (j / 5) o2 ho2
      have := hcell (j % 5) y hy2
      obtain rfl := Option.some.inj hab
      rw [Addr.add_lit]
      have e : b + (j / 5 * 5 + j % 5) = b + j := by omega
      rw [e] at this
      exact this
    · intro v' w' ho' hg _
      exact h v' w' (by rw [List.length_append, List.flatMap_append]; exact ho') ((Below.refl _ w).grown hg hB (fun k hk => (hown.lt k hk).1))
end Go.Proofs.YtboejbjobjhajaaGreatDoor
