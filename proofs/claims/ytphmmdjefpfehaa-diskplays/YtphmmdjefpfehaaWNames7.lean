/- What the landed disk's Names tells: the map's keys, sorted. -/
import Derived.Test.YtphmmdjefpfehaaWCrash7
namespace Go.Proofs.Ytphmmdjefpfehaa
open Go.RowKit Go.Sort

/-- The order of texts, as lists of bytes. -/
theorem bless_lt : ∀ {x y : List UInt8}, Op.bytesLess x y = true → x < y
  | _, [], h => by simp [Op.bytesLess] at h
  | [], _ :: _, _ => by simp
  | a :: x, b :: y, h => by
    simp only [Op.bytesLess, Bool.or_eq_true, decide_eq_true_eq, Bool.and_eq_true, beq_iff_eq] at h
    rw [List.cons_lt_cons_iff]
    rcases h with h | ⟨rfl, h⟩
    · exact Or.inl h
    · exact Or.inr ⟨rfl, bless_lt h⟩

theorem rises_le {fs : List Dq.Fl} (h : Dq.Rises fs) : (fs.map fun f => f.name.data.toList).Pairwise (fun a b => leB a b = true) := by
  rw [List.pairwise_map]
  refine h.imp ?_
  intro a b hab
  rw [Dq.less_eq] at hab
  simp only [leB, decide_eq_true_eq]
  exact List.le_of_lt (bless_lt hab)

theorem rises_nodup {fs : List Dq.Fl} (h : Dq.Rises fs) : (fs.map fun f => f.name.data.toList).Nodup := by
  unfold List.Nodup
  rw [List.pairwise_map]
  refine h.imp ?_
  intro a b hab e
  rw [Dq.less_eq, e, Dq.bless_irrefl] at hab
  cases hab

section
variable {w : World} {q m u : Nat} {st : Dq.St} {G : Nat → Prop} {D : DataW Nat} {P : ByteArray → Nat} {V : ByteArray → Value}

theorem DkU.keys (h : DkU w q st G m D P V u) (hr : Dq.Rises st.fs) {ss : List (List UInt8)} (hp : ss.Perm (strKeys D)) : ss.mergeSort leB = st.fs.map fun f => f.name.data.toList := by
  obtain ⟨es, hD, hpw, _⟩ := h.own.entries keyed7
  obtain ⟨es', hD', hko⟩ := h.own.keysOf
  obtain rfl : es = es' := by rw [hD] at hD'; simpa using hD'
  have hperm : (st.fs.map fun f => f.name.data.toList).Perm (strKeys D) := by
    rw [hD]
    refine perm_strKeys hpw (fun p hp => by obtain ⟨v, hv⟩ := hko p hp; obtain ⟨x, _, hx, _⟩ := Maps.keyOf_str Try.underlying9 hv; exact ⟨x, hx⟩) (rises_nodup hr) (fun x => ?_)
    rw [← hD, h.has, List.mem_map]
    constructor
    · rintro ⟨f, hf, e⟩
      exact ⟨f, hf, by unfold fkey; rw [e]⟩
    · rintro ⟨f, hf, e⟩
      unfold fkey at e
      simp only [Lit.string.injEq] at e
      exact ⟨f, hf, e.symm⟩
  have tr : ∀ a b c : List UInt8, leB a b = true → leB b c = true → leB a c = true := fun a b c h1 h2 => by simp only [leB, decide_eq_true_eq] at *; exact List.le_trans h1 h2
  have to : ∀ a b : List UInt8, (leB a b || leB b a) = true := fun a b => by simp only [leB, Bool.or_eq_true, decide_eq_true_eq]; exact List.le_total a b
  refine List.Perm.eq_of_pairwise (le := fun a b => leB a b = true) (fun a b _ _ h1 h2 => ?_) (List.pairwise_mergeSort tr to ss) (rises_le hr) (((List.mergeSort_perm ss leB).trans hp).trans hperm.symm)
  simp only [leB, decide_eq_true_eq] at h1 h2
  exact List.le_antisymm h1 h2
end

/-- slices.Sort here. -/
theorem sorts7 (n : Nat) : AnyZ.SortsIn Try.prog Try.sorted_ren Fence.wide n :=
  ⟨fun blk off cap ss W hH hblk hsz => callsIn_wide.2 (AnyM.slices_Sort_string Try.sort blk off cap ss W hH hblk hsz), fun p cap W => callsIn_wide.2 (AnyM.slices_Sort_string_none Try.sort p cap W)⟩

/-- maps.Keys here. -/
theorem keys7 (mb : Option Nat) (W : World) : Calls Try.prog 37 #[.map mb] W fun e w' => e = .returned (.func (.func 51) #[] #[.pointer (some ⟨W.heap.size, 0, none⟩)]) ∧ w' = W.alloc (.cells #[.map mb] 54) :=
  callsIn_wide.1 (AnyZ.keys_in Try.keys Fence.wide 5 trivial rfl mb W)

set_option maxHeartbeats 2000000 in
/-- slices.Sorted of them. -/
theorem sorted7 (b n : Nat) (D0 : DataW Nat) (w : World) (hown : w.ownsMap Try.prog 9 fElem b n D0) (hmax : Maps.size D0 ≤ 100000) :
    Calls Try.prog 36 #[.func (.func 51) #[] #[.pointer (some ⟨w.heap.size, 0, none⟩)]] (w.alloc (.cells #[.map (some b)] 54)) fun e w' => ∃ (v : Value) (ss : List (List UInt8)), e = .returned v ∧ ss.Perm (strKeys D0) ∧
      w'.ownsRow (w.alloc (.cells #[.map (some b)] 54)).heap.size 9 1 v ss.length ((ss.mergeSort leB).map encStr) ∧ Below (w.alloc (.cells #[.map (some b)] 54)).heap.size (w.alloc (.cells #[.map (some b)] 54)) w' := by
  have hseq : SeqGives Fence.wide 2 Try.prog 51 #[.pointer (some ⟨w.heap.size, 0, none⟩)] encStr (fun ss => ss.Perm (strKeys D0)) (Maps.size D0) (w.alloc (.cells #[.map (some b)] 54)) :=
    AnyZ.keys_gives (ρ := Try.keys_ren) { Try.keys with } Fence.wide _ trivial rfl (by omega) w.heap.size b n D0 _ (by simp) (by simp) (hown.alloc _)
  have key := AnyZ.sorted_in Try.sorted Fence.wide 5 trivial trivial trivial trivial rfl (by omega) (sorts7 _) (enters_of Try.func50 (by kernel_rfl) rfl) 51 #[.pointer (some ⟨w.heap.size, 0, none⟩)] trivial (enters_of Try.func51 (by kernel_rfl) rfl) _ _ (by unfold maxLen; omega) (by omega) _ hseq
  refine (callsIn_wide.1 key).mono ?_
  rintro e w' ⟨v, ss, h1, h2, h3, _, h5⟩
  exact ⟨v, ss, h1, h2, h3, h5⟩

/-- A row of texts, read. -/
theorem ss_row {w : World} {B n : Nat} {v : Value} {ts : List ByteArray} (h : w.ownsRow B 9 1 v n (ts.map Value.string)) : Ss w v ts := by
  have hl : n = ts.length := by
    have := h.1
    rw [List.length_map] at this
    omega
  rcases h.2 with ⟨rfl, h0⟩ | ⟨g, cap, cur, rfl, _, _, _⟩
  · exact ⟨none, 0, 0, rfl, by omega, fun j s hs => by
      have := (List.getElem?_eq_some_iff.1 hs).1
      omega⟩
  · refine ⟨some ⟨g, 0, none⟩, n, cap, rfl, hl, fun j s hs => ⟨g, 0, rfl, ?_⟩⟩
    have hj := (List.getElem?_eq_some_iff.1 hs).1
    have hc := h.cellAt j (by omega)
    rw [List.getElem?_map, hs] at hc
    rw [Nat.zero_add]
    exact hc

theorem enc_names (fs : List Dq.Fl) : (fs.map fun f => f.name.data.toList).map encStr = (fs.map (·.name)).map Value.string := by
  rw [List.map_map, List.map_map]
  apply List.map_congr_left
  intro f _
  simp [encStr]

set_option maxRecDepth 20000 in
set_option maxHeartbeats 2000000 in
theorem names_any7 (q : Nat) (st : Dq.St) (F : Nat → Prop) (w : World) (h : DkD w q st F) (hf : Fine st) :
    Calls Try.prog 20 #[dptr q] w fun e w' => ∃ F' v, e = .returned v ∧ Ss w' v (Dq.names st) ∧ DkD w' q st F' ∧ Moved w w' F F' := by
  obtain ⟨m, D, P, V, h⟩ := h
  have HD : Hid (DkU w q st F m D P V (Dq.size st.fs) ∧ Fine st) := ⟨h, hf⟩
  have c3 : w.cell? ⟨q, 3, none⟩ = some (.bool (!st.off)) := h.blk.cell 3
  have c0 : w.cell? ⟨q, 0, none⟩ = some (.map (some m)) := h.blk.cell 0
  clear h hf
  cases ho : st.off with
  | true =>
    have HX : Hid (Dq.names st = []) := by
      have h : Dq.names st = [] := by unfold Dq.names; rw [ho]; rfl
      exact h
    rw [HX.out]
    rw [ho] at c3
    clear ho c0
    go_enter Try.func20, Try.ntmps20
    go_wp2
    go_ret
    exact ⟨F, _, rfl, ⟨none, 0, 0, rfl, rfl, fun j s hs => by simp at hs⟩, HD.out.1.toD rfl, Moved.refl _ _⟩
  | false =>
    have HX : Hid (Dq.names st = st.fs.map (·.name)) := by
      have h : Dq.names st = st.fs.map (·.name) := by unfold Dq.names; rw [ho]; rfl
      exact h
    rw [HX.out]
    rw [ho] at c3
    clear ho
    have HK : Hid (Calls Try.prog 37 #[.map (some m)] w fun e w' => e = .returned (.func (.func 51) #[] #[.pointer (some ⟨w.heap.size, 0, none⟩)]) ∧ w' = w.alloc (.cells #[.map (some m)] 54)) := keys7 (some m) w
    have HS : Hid (Calls Try.prog 36 #[.func (.func 51) #[] #[.pointer (some ⟨w.heap.size, 0, none⟩)]] (w.alloc (.cells #[.map (some m)] 54)) fun e w' => ∃ v, e = .returned v ∧ Ss w' v (st.fs.map (·.name)) ∧ (∃ a n c, v = .slice a n c) ∧ Below w.heap.size w w') := by
      refine (sorted7 m _ D w HD.out.1.own (by have h1 := HD.out.1.own.size_le; have h2 := HD.out.2.2.1; omega)).mono ?_
      rintro e w' ⟨v, ss, rfl, hp, hrow, hb⟩
      rw [HD.out.1.keys HD.out.2.1.rises hp, enc_names] at hrow
      obtain ⟨a, c, e1, _⟩ := row_slice hrow
      have hb1 : Below w.heap.size w (w.alloc (.cells #[.map (some m)] 54)) := (Below.refl _ w).alloc (Nat.le_refl _) _
      exact ⟨v, rfl, ss_row hrow, ⟨_, _, _, e1⟩, hb1.trans (hb.mono hb1.size)⟩
    go_enter Try.func20, Try.ntmps20
    go_wp2_with fail
    refine HK.out.mono ?_
    rintro e w1 ⟨rfl, hw1⟩
    rw [hw1]
    clear hw1
    go_wp2_with fail
    refine HS.out.mono ?_
    rintro e w2 ⟨v, rfl, hss, ⟨a, n, c, rfl⟩, hb⟩
    have HFIN : Hid (Ss w2 (.slice a n c) (st.fs.map (·.name)) ∧ Below w.heap.size w w2) := ⟨hss, hb⟩
    clear hss hb
    go_wp2
    go_ret
    exact ⟨F, _, rfl, HFIN.out.1, (HD.out.1.below HFIN.out.2).toD rfl, Moved.of_below F HFIN.out.2⟩
end Go.Proofs.Ytphmmdjefpfehaa
