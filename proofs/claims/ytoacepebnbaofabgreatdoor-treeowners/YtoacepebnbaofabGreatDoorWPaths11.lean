/- What the landed tree's Paths tells: the map's keys, sorted. -/
import Derived.Test.YtoacepebnbaofabGreatDoorWNd11
import Derived.Sort.OwnSorted
import Derived.Lib.OwnBridge
namespace Go.Proofs.YtoacepebnbaofabGreatDoor
open Go.RowKit Go.Sort

/-- The order of texts, as lists of bytes. -/
theorem bless_lt : ∀ {x y : List UInt8}, Op.bytesLess x y = true → x < y
  | _, [], h => by simp [Op.bytesLess] at h
  | [], _ :: _, _ => by simp
  | a :: x, b :: y, h => by
    simp only [Op.bytesLess, Bool.or_eq_true, decide_eq_true_eq, Bool.and_eq_true, beq_iff_eq] at h
    rw [List.cons_lt_cons_iff]
    rcases h with h | ⟨rfl, h⟩
    · exact Or.inl h
    · exact Or.inr ⟨rfl, bless_lt h⟩
abbrev dl11 (L : List ByteArray) : List (List UInt8) := L.map fun s => s.data.toList
theorem rises_le11 {L : List ByteArray} (h : Kq.Rises L) : (dl11 L).Pairwise (fun a b => leB a b = true) := by
  rw [List.pairwise_map]
  refine h.imp ?_
  intro a b hab
  unfold Kq.lt at hab
  rw [ByteArray.toList_eq, ByteArray.toList_eq] at hab
  simp only [leB, decide_eq_true_eq]
  exact List.le_of_lt (bless_lt hab)
theorem rises_nodup11 {L : List ByteArray} (h : Kq.Rises L) : (dl11 L).Nodup := by
  unfold List.Nodup
  rw [List.pairwise_map]
  refine h.imp ?_
  intro a b hab e
  refine Kq.lt_ne hab ?_
  exact bytes_eq (by rw [ByteArray.toList_eq, ByteArray.toList_eq, e]; simp)
theorem sort_eq11 {L : List ByteArray} (h : Kq.Rises L) {ss : List (List UInt8)} (hp : ss.Perm (dl11 L)) : ss.mergeSort leB = dl11 L := by
  have tr : ∀ a b c : List UInt8, leB a b = true → leB b c = true → leB a c = true := fun a b c h1 h2 => by simp only [leB, decide_eq_true_eq] at *; exact List.le_trans h1 h2
  have tot : ∀ a b : List UInt8, (leB a b || leB b a) = true := fun a b => by simp only [leB, Bool.or_eq_true, decide_eq_true_eq]; exact List.le_total a b
  refine List.Perm.eq_of_pairwise (le := fun a b => leB a b = true) (fun a b _ _ h1 h2 => ?_) (List.pairwise_mergeSort tr tot ss) (rises_le11 h) ((List.mergeSort_perm ss leB).trans hp)
  simp only [leB, decide_eq_true_eq] at h1 h2
  exact List.le_antisymm h1 h2
theorem enc11 (L : List ByteArray) : (dl11 L).map encStr = sc L := by
  unfold sc
  rw [List.map_map]
  apply List.map_congr_left
  intro s _
  simp [encStr]
section
variable {w : World} {q m : Nat} {t : Tq.Tr} {G : Nat → Prop} {D : DataW Nat} {P : ByteArray → Nat} {V : ByteArray → Value}
theorem TkU.keys (h : TkU w q t G m D P V) (hr : Kq.Rises (Tq.keys t.l)) : (dl11 (Tq.keys t.l)).Perm (strKeys D) := by
  obtain ⟨es, hD, hpw, _⟩ := h.own.entries keyed11
  obtain ⟨es', hD', hko⟩ := h.own.keysOf
  obtain rfl : es = es' := by rw [hD] at hD'; simpa using hD'
  rw [hD]
  refine perm_strKeys hpw (fun p hp => by obtain ⟨v, hv⟩ := hko p hp; obtain ⟨x, _, hx, _⟩ := Maps.keyOf_str Tryz.underlying9 hv; exact ⟨x, hx⟩) (rises_nodup11 hr) (fun x => ?_)
  rw [← hD, h.has, List.mem_map]
  constructor
  · rintro ⟨s, hs, e⟩
    obtain ⟨f, hf, rfl⟩ := List.mem_map.1 hs
    exact ⟨f, hf, by unfold fkey; rw [e]⟩
  · rintro ⟨f, hf, e⟩
    unfold fkey at e
    simp only [Lit.string.injEq] at e
    exact ⟨f.1, List.mem_map.2 ⟨f, hf, rfl⟩, e.symm⟩

/-- slices.Sort here. -/
theorem sorts11 (n : Nat) : AnyZ.SortsIn Tryz.prog Tryz.sorted_ren Fence.wide n :=
  ⟨fun blk off cap ss W hH hblk hsz => callsIn_wide.2 (AnyM.slices_Sort_string Tryz.sort blk off cap ss W hH hblk hsz), fun p cap W => callsIn_wide.2 (AnyM.slices_Sort_string_none Tryz.sort p cap W)⟩
/-- maps.Keys here. -/
theorem keys11 (mb : Option Nat) (W : World) : Calls Tryz.prog 22 #[.map mb] W fun e w' => e = .returned (.func (.func 42) #[] #[.pointer (some ⟨W.heap.size, 0, none⟩)]) ∧ w' = W.alloc (.cells #[.map mb] 55) :=
  callsIn_wide.1 (AnyZ.keys_in Tryz.keys Fence.wide 5 trivial rfl mb W)
set_option maxHeartbeats 2000000 in
/-- slices.Sorted of them. -/
theorem sorted11 (b n : Nat) (D0 : DataW Nat) (w : World) (hown : w.ownsMap Tryz.prog 9 fElem b n D0) (hmax : Maps.size D0 ≤ 100000) :
    Calls Tryz.prog 21 #[.func (.func 42) #[] #[.pointer (some ⟨w.heap.size, 0, none⟩)]] (w.alloc (.cells #[.map (some b)] 55)) fun e w' => ∃ (v : Value) (ss : List (List UInt8)), e = .returned v ∧ ss.Perm (strKeys D0) ∧
      w'.ownsRow (w.alloc (.cells #[.map (some b)] 55)).heap.size 9 1 v ss.length ((ss.mergeSort leB).map encStr) ∧ Below (w.alloc (.cells #[.map (some b)] 55)).heap.size (w.alloc (.cells #[.map (some b)] 55)) w' := by
  have hseq : SeqGives Fence.wide 2 Tryz.prog 42 #[.pointer (some ⟨w.heap.size, 0, none⟩)] encStr (fun ss => ss.Perm (strKeys D0)) (Maps.size D0) (w.alloc (.cells #[.map (some b)] 55)) :=
    AnyZ.keys_gives (ρ := Tryz.keys_ren) { Tryz.keys with } Fence.wide _ trivial rfl (by omega) w.heap.size b n D0 _ (by simp) (by simp) (hown.alloc _)
  have key := AnyZ.sorted_in Tryz.sorted Fence.wide 5 trivial trivial trivial trivial rfl (by omega) (sorts11 _) (enters_of Tryz.func31 (by kernel_rfl) rfl) 42 #[.pointer (some ⟨w.heap.size, 0, none⟩)] trivial (enters_of Tryz.func42 (by kernel_rfl) rfl) _ _ (by unfold maxLen; omega) (by omega) _ hseq
  refine (callsIn_wide.1 key).mono ?_
  rintro e w' ⟨v, ss, h1, h2, h3, _, h5⟩
  exact ⟨v, ss, h1, h2, h3, h5⟩

set_option maxRecDepth 20000 in
set_option maxHeartbeats 2000000 in
theorem paths_any11 (h : TkU w q t G m D P V) (hf : Fine11 t) :
    Calls Tryz.prog 9 #[dptr q] w fun e w' => ∃ v, e = .returned v ∧ Sq w' v (Tq.keys t.l) ∧ Off11 G v ∧ TkU w' q t G m D P V ∧ Below w.heap.size w w' := by
  have HD : Hid (TkU w q t G m D P V) := h
  have c0 : w.cell? ⟨q, 0, none⟩ = some (.map (some m)) := h.blk.cell 0
  have HK : Hid (Calls Tryz.prog 22 #[.map (some m)] w fun e w' => e = .returned (.func (.func 42) #[] #[.pointer (some ⟨w.heap.size, 0, none⟩)]) ∧ w' = (w.alloc (.cells #[.map (some m)] 55))) := keys11 (some m) w
  have HS : Hid (Calls Tryz.prog 21 #[.func (.func 42) #[] #[.pointer (some ⟨w.heap.size, 0, none⟩)]] (w.alloc (.cells #[.map (some m)] 55)) fun e w' => ∃ a n c, e = .returned (.slice a n c) ∧ Sq w' (.slice a n c) (Tq.keys t.l) ∧ (∀ k, (Value.slice a n c).ownBlock = some k → w.heap.size ≤ k) ∧ Below w.heap.size w w') := by
    refine (sorted11 m _ D w h.own (by have h1 := h.sz; have h2 := hf.len; have h3 := hf.room; omega)).mono ?_
    rintro e w' ⟨v, ss, rfl, hp, hrow, hb⟩
    have hlen : ss.length = (Tq.keys t.l).length := by
      have := (hp.trans (h.keys hf.rise).symm).length_eq
      simpa using this
    rw [sort_eq11 hf.rise (hp.trans (h.keys hf.rise).symm), enc11, hlen] at hrow
    obtain ⟨a, c, e1, _⟩ := row_form hrow
    have hb1 : Below w.heap.size w (w.alloc (.cells #[.map (some m)] 55)) := (Below.refl _ w).alloc (Nat.le_refl _) _
    subst e1
    exact ⟨_, _, _, rfl, sq_of_row hrow, fun k hk => by have := (hrow.lt k hk).1; have := hb1.size; omega, hb1.trans (hb.mono hb1.size)⟩
  clear h hf
  go_enter Tryz.func9, Tryz.ntmps9
  go_wp2_with fail
  refine HK.out.mono ?_
  rintro e w1 ⟨rfl, hw1⟩
  rw [hw1]
  clear hw1
  go_wp2_with fail
  refine HS.out.mono ?_
  rintro e w2 ⟨a, n, c, rfl, hss, hnw, hb⟩
  have HFIN : Hid (Sq w2 (.slice a n c) (Tq.keys t.l) ∧ (∀ k, (Value.slice a n c).ownBlock = some k → w.heap.size ≤ k) ∧ Below w.heap.size w w2) := ⟨hss, hnw, hb⟩
  clear hss hb hnw
  go_wp2
  go_ret
  exact ⟨_, rfl, HFIN.out.1, fun k hk e => by have := HFIN.out.2.1 k hk; have := HD.out.glt k e; omega, HD.out.below HFIN.out.2.2, HFIN.out.2.2⟩
end
end Go.Proofs.YtoacepebnbaofabGreatDoor
