/- Texts in their order, each once: plain reckoning; Ops behind Ops. -/
import Derived.Test.YtjimemnkmpapgaaGreatDoorOps
import Derived.Test.YtjimemnkmpapgaaGreatDoorLibP
namespace Go.Proofs.YtjimemnkmpapgaaGreatDoor.Ts

theorem less_irrefl : ∀ x : List UInt8, Op.bytesLess x x = false
  | [] => rfl
  | a :: x => by simp [Op.bytesLess, less_irrefl x]

theorem less_trans : ∀ {x y z : List UInt8}, Op.bytesLess x y = true → Op.bytesLess y z = true → Op.bytesLess x z = true
  | _, [], _, h, _ => by simp [Op.bytesLess] at h
  | _, _ :: _, [], _, h => by simp [Op.bytesLess] at h
  | [], _ :: _, _ :: _, _, _ => rfl
  | a :: x, b :: y, c :: z, h1, h2 => by
    simp only [Op.bytesLess, Bool.or_eq_true, decide_eq_true_eq, Bool.and_eq_true, beq_iff_eq] at h1 h2 ⊢
    rcases h1 with h1 | ⟨rfl, h1⟩
    · rcases h2 with h2 | ⟨rfl, h2⟩
      · exact Or.inl (UInt8.lt_trans h1 h2)
      · exact Or.inl h1
    · rcases h2 with h2 | ⟨rfl, h2⟩
      · exact Or.inl h2
      · exact Or.inr ⟨rfl, less_trans h1 h2⟩

/-- Each is below those behind it. -/
def Rises (l : List (List UInt8)) : Prop := l.Pairwise fun a b => Op.bytesLess a b = true

theorem Rises.notin {x : List UInt8} {l : List (List UInt8)} (h : Rises (x :: l)) : x ∉ l := fun hx => by
  have := (List.pairwise_cons.1 h).1 x hx
  rw [less_irrefl] at this
  cases this

theorem rises_eq : ∀ {a b : List (List UInt8)}, Rises a → Rises b → (∀ x, x ∈ a ↔ x ∈ b) → a = b
  | [], [], _, _, _ => rfl
  | [], y :: b, _, _, h => by have := (h y).2 (by simp); cases this
  | x :: a, [], _, _, h => by have := (h x).1 (by simp); cases this
  | x :: a, y :: b, ha, hb, h => by
    have hxy : x = y := by
      apply Classical.byContradiction
      intro hne
      have h1 : Op.bytesLess y x = true := by
        rcases List.mem_cons.1 ((h x).1 (by simp)) with e | hm
        · exact absurd e hne
        · exact (List.pairwise_cons.1 hb).1 x hm
      have h2 : Op.bytesLess x y = true := by
        rcases List.mem_cons.1 ((h y).2 (by simp)) with e | hm
        · exact absurd e.symm hne
        · exact (List.pairwise_cons.1 ha).1 y hm
      have := less_trans h1 h2
      rw [less_irrefl] at this
      cases this
    subst hxy
    rw [rises_eq (List.pairwise_cons.1 ha).2 (List.pairwise_cons.1 hb).2 (fun z => ?_)]
    constructor
    · intro hz
      rcases List.mem_cons.1 ((h z).1 (List.mem_cons_of_mem _ hz)) with rfl | hm
      · exact absurd hz ha.notin
      · exact hm
    · intro hz
      rcases List.mem_cons.1 ((h z).2 (List.mem_cons_of_mem _ hz)) with rfl | hm
      · exact absurd hz hb.notin
      · exact hm

theorem rises_len : ∀ {a b : List (List UInt8)}, Rises a → (∀ x, x ∈ a → x ∈ b) → a.length ≤ b.length
  | [], _, _, _ => Nat.zero_le _
  | x :: a, b, ha, h => by
    have hx := h x (by simp)
    have h1 := rises_len (b := b.erase x) (List.pairwise_cons.1 ha).2 (fun z hz => by
      have hne : z ≠ x := fun e => ha.notin (e ▸ hz)
      exact (List.mem_erase_of_ne hne).2 (h z (List.mem_cons_of_mem _ hz)))
    have h2 := List.length_erase_of_mem hx
    have h3 := List.length_pos_of_mem hx
    rw [List.length_cons]
    omega

/-- The first names of Ops. -/
def Tops (os : List O) (l : List (List UInt8)) : Prop := Rises l ∧ ∀ x, x ∈ l ↔ x ≠ [] ∧ ∃ o ∈ os, Pl.top o.path.data.toList = x

theorem tops_swap {a b : List O} {l m : List (List UInt8)} (h : Tops (a ++ b) l) (k : Tops (b ++ a) m) : l = m :=
  rises_eq h.1 k.1 (fun x => by
    rw [h.2 x, k.2 x]
    constructor
    · rintro ⟨h0, o, ho, e⟩
      exact ⟨h0, o, by rcases List.mem_append.1 ho with h1 | h1 <;> simp [h1], e⟩
    · rintro ⟨h0, o, ho, e⟩
      exact ⟨h0, o, by rcases List.mem_append.1 ho with h1 | h1 <;> simp [h1], e⟩)

theorem tops_more {a b : List O} {l m : List (List UInt8)} (h : Tops a l) (k : Tops (a ++ b) m) : l.length ≤ m.length :=
  rises_len h.1 (fun x hx => by
    obtain ⟨h0, o, ho, e⟩ := (h.2 x).1 hx
    exact (k.2 x).2 ⟨h0, o, by simp [ho], e⟩)

theorem tops_len {a : List O} {l : List (List UInt8)} (h : Tops a l) : l.length ≤ a.length := by
  have := rises_len (b := a.map fun o => Pl.top o.path.data.toList) h.1 (fun x hx => by
    obtain ⟨_, o, ho, e⟩ := (h.2 x).1 hx
    exact List.mem_map.2 ⟨o, ho, e⟩)
  simpa using this
end Go.Proofs.YtjimemnkmpapgaaGreatDoor.Ts

namespace Go.Proofs.YtjimemnkmpapgaaGreatDoor
open Go.RowKit

theorem oc_len (o : O) : (oc o).length = 5 := rfl

/-- The cells of Ops, one behind the other. -/
theorem flat_get : ∀ (os : List O) (j : Nat), (os.flatMap oc)[j]? = (os[j / 5]?).bind fun o => (oc o)[j % 5]?
  | [], j => by simp
  | o :: os, j => by
    rw [List.flatMap_cons]
    by_cases hj : j < 5
    · have e1 : j / 5 = 0 := by omega
      have e2 : j % 5 = j := by omega
      rw [List.getElem?_append_left (by rw [oc_len]; exact hj), e1, e2]
      rfl
    · have e1 : j / 5 = (j - 5) / 5 + 1 := by omega
      have e2 : j % 5 = (j - 5) % 5 := by omega
      rw [List.getElem?_append_right (by rw [oc_len]; omega), oc_len, flat_get os (j - 5), e1, e2, List.getElem?_cons_succ]

theorem flat_len5 (os : List O) : (os.flatMap oc).length = os.length * 5 := by
  induction os with
  | nil => rfl
  | cons o os ih => rw [List.flatMap_cons, List.length_append, oc_len, ih, List.length_cons]; omega

theorem flat_one (os : List O) : ∀ u ∈ os.flatMap oc, u.oneCell' = true := by
  intro u hu
  obtain ⟨o, _, ho⟩ := List.mem_flatMap.1 hu
  simp [oc] at ho
  rcases ho with rfl | rfl | rfl | rfl | rfl <;> rfl

theorem infoOp : (Tryz.prog.info? 38).map (fun i => (i.zero, i.size, i.bytes)) = some (some (.agg #[.int .i64 0, .string ⟨#[]⟩, .string ⟨#[]⟩, .int .i64 0, .int .i64 0]), 5, 56) := by kernel_rfl

theorem Ol.own {w : World} {B : Nat} {v : Value} {os : List O} (h : w.ownsRow B 38 5 v os.length (os.flatMap oc)) : Ol w v os := by
  rcases h.2 with ⟨rfl, h0⟩ | ⟨g, cap, cur, rfl, _, _, hn, _⟩
  · exact ⟨none, 0, 0, rfl, h0.symm, Nat.le_refl _, fun _ => rfl, fun j o ho => by
      have := (List.getElem?_eq_some_iff.1 ho).1
      omega⟩
  · refine ⟨some ⟨g, 0, none⟩, os.length, cap, rfl, rfl, hn, fun e => (by cases e), fun j o ho => ⟨g, 0, rfl, fun i u hu => ?_⟩⟩
    have hj := (List.getElem?_eq_some_iff.1 ho).1
    have hi : i < 5 := (List.getElem?_eq_some_iff.1 hu).1
    rw [Nat.zero_add, h.cellAt (j * 5 + i) (by omega), flat_get]
    have e1 : (j * 5 + i) / 5 = j := by omega
    have e2 : (j * 5 + i) % 5 = i := by omega
    rw [e1, e2, ho]
    exact hu

/-- 'append(s, x...)': Ops wherever they lie, behind what the call owns. -/
theorem append_ops {ops : Array Oper} {rest : List Oper} {o : Oper} {a : Act} {Q : Exit → Act → World → Prop} (hgd : o.guard = none) (s x : Operand)
    (ho : o.op = .call { callee := .builtin .append, args := #[s, x], argTypes := #[28, 28] })
    (B : Nat) (v u : Value) (ls ms : List O) (w : World) (hs : a.eval s = v) (hx : a.eval x = u) (hown : w.ownsRow B 38 5 v ls.length (ls.flatMap oc)) (hB : B ≤ w.heap.size) (hb : Ol w u ms) (hN : ls.length + ms.length ≤ 1000)
    (h : ∀ v' w', w'.ownsRow B 38 5 v' (ls ++ ms).length ((ls ++ ms).flatMap oc) → Below B w w' → wpList Tryz.prog ops Q rest (a.put o.dst v') w') : wpList Tryz.prog ops Q (o :: rest) a w := by
  obtain ⟨i0, hi, hz0, hz1, hz2⟩ := info_parts infoOp
  obtain ⟨ao, m, c, rfl, hm, hmc, hnil, hcs⟩ := hb
  cases ao with
  | none =>
    have hc0 := hnil rfl
    subst hc0
    have hm0 : m = 0 := by omega
    subst hm0
    obtain rfl : ms = [] := List.length_eq_zero_iff.1 hm.symm
    exact wpList_append_own_none hgd s x 28 ho B 38 i0 5 Tryz.underlying28 hi v ls.length (ls.flatMap oc) hs hown hx (h _ _ (by simpa using hown) (Below.refl _ w))
  | some ad =>
    subst hm
    refine wpList_append_own _ hgd s x 28 ho B 38 i0 (.agg #[.int .i64 0, .string ⟨#[]⟩, .string ⟨#[]⟩, .int .i64 0, .int .i64 0]) 5 56 Tryz.underlying28 hi hz0 hz1 hz2 rfl (by decide) v ls.length (ls.flatMap oc) hs hown ad ms.length c (ms.flatMap oc) hx (flat_len5 ms) ?_ (flat_one ms) (by unfold maxLen; omega) (by omega) hB ?_
    · intro j y hy
      rw [flat_get] at hy
      obtain ⟨o2, ho2, hy2⟩ := Option.bind_eq_some_iff.1 hy
      obtain ⟨g, b, hab, hcell⟩ := hcs (j / 5) o2 ho2
      have := hcell (j % 5) y hy2
      obtain rfl := Option.some.inj hab
      rw [Addr.add_lit]
      have e : b + (j / 5 * 5 + j % 5) = b + j := by omega
      rw [e] at this
      exact this
    · intro v' w' ho' hg _
      exact h v' w' (by rw [List.length_append, List.flatMap_append]; exact ho') ((Below.refl _ w).grown hg hB (fun k hk => (hown.lt k hk).1))
end Go.Proofs.YtjimemnkmpapgaaGreatDoor
