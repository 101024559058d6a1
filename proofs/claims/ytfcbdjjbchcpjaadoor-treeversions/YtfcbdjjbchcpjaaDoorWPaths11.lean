/- What the landed tree's Paths tells: the map's keys, sorted. -/
import Derived.Test.YtfcbdjjbchcpjaaDoorWNd11
import Derived.Sort.OwnSorted
import Derived.Lib.OwnBridge
namespace Go.Proofs.YtfcbdjjbchcpjaaDoor
open Go.RowKit Go.Sort

/-- The order of texts, as lists of bytes. -/
theorem bless_lt : ∀ {x y : List UInt8}, Op.bytesLess x y = true → x < y
  | _, [], h => by simp [Op.bytesLess] at h
  | [], _ :: _, _ => by simp
  | a :: x, b :: y, h => by
    simp only [Op.bytesLess, Bool.or_eq_true, decide_eq_true_eq, Bool.and_eq_true, beq_iff_eq] at h
    rw [List.cons_lt_cons_iff]
    rcases h with h | ⟨rfl, h⟩
    · exact Or.inl h
    · exact Or.inr ⟨rfl, bless_lt h⟩
abbrev dl11 (L : List ByteArray) : List (List UInt8) := L.map fun s => s.data.toList
theorem rises_le11 {L : List ByteArray} (h : Kq.Rises L) : (dl11 L).Pairwise (fun a b => leB a b = true) := by
  rw [List.pairwise_map]
  refine h.imp ?_
  intro a b hab
  unfold Kq.lt at hab
  rw [ByteArray.toList_eq, ByteArray.toList_eq] at hab
  simp only [leB, decide_eq_true_eq]
  exact List.le_of_lt (bless_lt hab)
theorem rises_nodup11 {L : List ByteArray} (h : Kq.Rises L) : (dl11 L).Nodup := by
  unfold List.Nodup
  rw [List.pairwise_map]
  refine h.imp ?_
  intro a b hab e
  refine Kq.lt_ne hab ?_
  exact bytes_eq (by rw [ByteArray.toList_eq, ByteArray.toList_eq, e]; simp)
theorem sort_eq11 {L : List ByteArray} (h : Kq.Rises L) {ss : List (List UInt8)} (hp : ss.Perm (dl11 L)) : ss.mergeSort leB = dl11 L := by
  have tr : ∀ a b c : List UInt8, leB a b = true → leB b c = true → leB a c = true := fun a b c h1 h2 => by simp only [leB, decide_eq_true_eq] at *; exact List.le_trans h1 h2
  have tot : ∀ a b : List UInt8, (leB a b || leB b a) = true := fun a b => by simp only [leB, Bool.or_eq_true, decide_eq_true_eq]; exact List.le_total a b
  refine List.Perm.eq_of_pairwise (le := fun a b => leB a b = true) (fun a b _ _ h1 h2 => ?_) (List.pairwise_mergeSort tr tot ss) (rises_le11 h) ((List.mergeSort_perm ss leB).trans hp)
  simp only [leB, decide_eq_true_eq] at h1 h2
  exact List.le_antisymm h1 h2
theorem enc11 (L : List ByteArray) : (dl11 L).map encStr = sc L := by
  unfold sc
  rw [List.map_map]
  apply List.map_congr_left
  intro s _
  simp [encStr]
section
variable {w : World} {q m : Nat} {t : Tq.Tr} {G : Nat → Prop} {D : DataW Nat} {P : ByteArray → Nat} {V : ByteArray → Value}
theorem TkU.keys (h : TkU w q t G m D P V) (hr : Kq.Rises (Tq.keys t.l)) : (dl11 (Tq.keys t.l)).Perm (strKeys D) := by
  obtain ⟨es, hD, hpw, _⟩ := h.own.entries keyed11
  obtain ⟨es', hD', hko⟩ := h.own.keysOf
  obtain rfl : es = es' := by rw [hD] at hD'; simpa using hD'
  rw [hD]
  refine perm_strKeys hpw (fun p hp => by obtain ⟨v, hv⟩ := hko p hp; obtain ⟨x, _, hx, _⟩ := Maps.keyOf_str Tryd.underlying9 hv; exact ⟨x, hx⟩) (rises_nodup11 hr) (fun x => ?_)
  rw [← hD, h.has, List.mem_map]
  constructor
  · rintro ⟨s, hs, e⟩
    obtain ⟨f, hf, rfl⟩ := List.mem_map.1 hs
    exact ⟨f, hf, by unfold fkey; rw [e]⟩
  · rintro ⟨f, hf, e⟩
    unfold fkey at e
    simp only [Lit.string.injEq] at e
    exact ⟨f.1, List.mem_map.2 ⟨f, hf, rfl⟩, e.symm⟩

end
end Go.Proofs.YtfcbdjjbchcpjaaDoor
