/- A slice of strings that is appended to at its end and cut at its head. -/
import Derived.Test.YtfcbdjjbchcpjaaDoorSpecs11
import Derived.Deep.Upon
namespace Go.Proofs.YtfcbdjjbchcpjaaDoor
open Go.RowKit

/-- One append on a slice wherever it lies. -/
theorem came_next {w w' : World} {e : TypeId} {ao : Option Addr} {b off L cap : Nat} {olds : List Value} {u v' : Value} {r : Nat} (hc : Came w 1 ao b off L cap olds) (hU : Upon w e 1 ao b off L cap olds w' v' (0 + 1) ([] ++ [u]) r) :
    ∃ ao' b' off' cap', v' = .slice ao' (L + 1) cap' ∧ Came w' 1 ao' b' off' (L + 1) cap' (olds ++ [u]) ∧ 0 < cap' ∧ ((b' = b ∧ 0 < cap) ∨ w.heap.size ≤ b') := by
  have hol := hc.oldsLen
  rcases hU.val with ⟨hle, rfl, hr⟩ | ⟨hgt, g, c', rfl, ho⟩
  · have hr1 : r = 1 := hr
    refine ⟨ao, b, off, cap, rfl, ⟨hle, hc.addr, fun h => Nat.lt_of_lt_of_le (hc.lt h) hU.kept.size, by simp; omega, ?_, ?_⟩, by omega, Or.inl ⟨rfl, by omega⟩⟩
    · intro j u' hj
      have hjl := (List.getElem?_eq_some_iff.1 hj).1
      simp only [List.length_append, List.length_cons, List.length_nil] at hjl
      rw [hU.inArray hc (by omega) hr j (by omega)]
      exact hj
    · intro j hj
      have hb := hc.lt (by omega)
      have h1 := hc.spare (j + 1) (by omega)
      rw [show off + (L + 1) * 1 + j = off + L * 1 + (j + 1) by omega]
      refine ⟨?_, ?_⟩
      · rw [hU.old hb (fun j' hj' he => by omega)]
        exact h1.1
      · rw [hU.frozen _ hb]
        exact h1.2
  · have hle := ho.le
    refine ⟨some ⟨g, 0, none⟩, g, 0, c', rfl, ⟨hle, fun _ => rfl, fun h => ?_, by simp; omega, ?_, ?_⟩, by omega, Or.inr ho.new⟩
    · obtain ⟨x, hx⟩ := Option.isSome_iff_exists.1 (ho.there 0 (by omega)).1
      exact World.block_lt_of_cell? _ _ hx
    · intro j u' hj
      have hjl := (List.getElem?_eq_some_iff.1 hj).1
      simp only [List.length_append, List.length_cons, List.length_nil] at hjl
      rw [Nat.zero_add, ho.holds j (by omega)]
      exact hj
    · intro j hj
      rw [show 0 + (L + 1) * 1 + j = (L + 1) * 1 + j by omega]
      exact ho.there _ (by omega)

/-- A slice of strings of the statement's own, off the tree's blocks. -/
def Qr11 (W w : World) (F : Nat → Prop) (v : Value) (l : List ByteArray) : Prop :=
  ∃ ao b off cap, v = .slice ao l.length cap ∧ Came w 1 ao b off l.length cap (sc l) ∧ (0 < cap → W.heap.size ≤ b ∧ ¬ F b)
section
variable {W w w' : World} {F F' : Nat → Prop} {v : Value} {l : List ByteArray}
theorem qr11_nil : Qr11 W w F (.slice none 0 0) [] :=
  ⟨none, 0, 0, 0, rfl, ⟨Nat.le_refl _, fun h => by omega, fun h => by omega, rfl, fun j u hu => by simp [sc] at hu, fun j hj => by simp at hj⟩, fun h => by omega⟩
theorem came_keep {ao : Option Addr} {b off L cap : Nat} {olds : List Value} (h : Came w 1 ao b off L cap olds) (hs : w.heap.size ≤ w'.heap.size) (hb : 0 < cap → w'.heap[b]? = w.heap[b]?) : Came w' 1 ao b off L cap olds := by
  have hl := h.oldsLen
  have hle := h.le
  refine ⟨h.le, h.addr, fun hc => Nat.lt_of_lt_of_le (h.lt hc) hs, h.oldsLen, fun j u hu => ?_, fun j hj => ?_⟩
  · have h1 := (List.getElem?_eq_some_iff.1 hu).1
    rw [World.cell?_of_block (a := ⟨b, off + j, none⟩) (hb (by omega))]
    exact h.olds j u hu
  · have h1 := hb (by omega)
    rw [World.cell?_of_block (a := ⟨b, off + L * 1 + j, none⟩) h1, World.frozen?_of_block (a := ⟨b, off + L * 1 + j, none⟩) h1]
    exact h.spare j hj
theorem Qr11.later (h : Qr11 W w F v l) (hb : Below w.heap.size w w') : Qr11 W w' F v l := by
  obtain ⟨ao, b, off, cap, rfl, hc, hn⟩ := h
  exact ⟨ao, b, off, cap, rfl, came_keep hc hb.size (fun h => hb.block b (hc.lt h)), hn⟩
theorem Qr11.moved (h : Qr11 W w F v l) (hm : Moved w w' F F') : Qr11 W w' F' v l := by
  obtain ⟨ao, b, off, cap, rfl, hc, hn⟩ := h
  refine ⟨ao, b, off, cap, rfl, came_keep hc hm.size (fun h => hm.block b (hc.lt h) (hn h).2), fun h => ⟨(hn h).1, fun e => ?_⟩⟩
  rcases hm.sub b e with e | e
  · exact (hn h).2 e
  · have := hc.lt h
    omega
/-- Its head, and what is left. -/
theorem Qr11.head {z : ByteArray} (h : Qr11 W w F v (z :: l)) : ∃ b off cap, v = .slice (some ⟨b, off, none⟩) (l.length + 1) (cap + 1) ∧ l.length ≤ cap ∧ w.cell? ⟨b, off, none⟩ = some (.string z) ∧ Qr11 W w F (.slice (some ⟨b, off + 1, none⟩) l.length cap) l := by
  obtain ⟨ao, b, off, cap, rfl, hc, hn⟩ := h
  have hle := hc.le
  simp only [List.length_cons] at hle
  obtain ⟨cap, rfl⟩ : ∃ c, cap = c + 1 := ⟨cap - 1, by omega⟩
  obtain rfl := hc.addr (by omega)
  refine ⟨b, off, cap, rfl, by omega, hc.olds 0 _ rfl, some ⟨b, off + 1, none⟩, b, off + 1, cap, rfl, ⟨by omega, fun _ => rfl, fun _ => hc.lt (by omega), by simp [sc], fun j u hu => ?_, fun j hj => ?_⟩, fun _ => hn (by omega)⟩
  · have h1 := hc.olds (j + 1) u (by simpa [sc] using hu)
    rw [show off + 1 + j = off + (j + 1) by omega]
    exact h1
  · have h1 := hc.spare j (by simp only [List.length_cons]; omega)
    simp only [List.length_cons] at h1
    rw [show off + 1 + l.length * 1 + j = off + (l.length + 1) * 1 + j by omega]
    exact h1
end

theorem append_qr {LT : Rep11} (S : Specs11 LT) {ops : Array Oper} {rest : List Oper} {o : Oper} {a : Act} {Q : Exit → Act → World → Prop} (hgd : o.guard = none) (s x : Operand)
    (ho : o.op = .call { callee := .builtin .append, args := #[s, x], argTypes := #[28, 28] })
    (W w : World) (q : Nat) (t : Tq.Tr) (F : Nat → Prop) (v : Value) (l : List ByteArray) (g : Nat) (z : ByteArray) (hs : a.eval s = v) (hx : a.eval x = .slice (some ⟨g, 0, none⟩) 1 1)
    (hM : Mine11 LT W w q t F) (hq : Qr11 W w F v l) (hg : w.cell? ⟨g, 0, none⟩ = some (.string z)) (hN : l.length + 1 ≤ 3000)
    (h : ∀ v' w', Mine11 LT W w' q t F → Qr11 W w' F v' (l ++ [z]) → wpList Tryd.prog ops Q rest (a.put o.dst v') w') : wpList Tryd.prog ops Q (o :: rest) a w := by
  obtain ⟨ao, b, off, cap, rfl, hc, hn⟩ := hq
  obtain ⟨i0, hi, hz0, hz1, hz2⟩ := info_parts infoText
  have hle := hc.le
  have hsrc : Go.Src Tryd.prog 1 28 (.slice (some ⟨g, 0, none⟩) 1 1) 1 [.string z] w := by
    refine Go.Src.ofSlice (P := Tryd.prog) (w := w) Tryd.underlying28 ⟨g, 0, none⟩ 1 1 [.string z] rfl (fun j u hu => ?_) (fun u hu => ?_)
    · cases j with
      | zero =>
        simp only [List.getElem?_cons_zero, Option.some.injEq] at hu
        subst hu
        rw [Addr.add_lit]
        exact hg
      | succ j => simp at hu
    · simp only [List.mem_singleton] at hu
      subst hu
      rfl
  obtain ⟨v', w', hrun, hU⟩ := run_append_upon (P := Tryd.prog) hc 28 28 o.type i0 (.string ⟨#[]⟩) 16 Tryd.underlying28 hi hz0 hz1 hz2 rfl (Upon.start (e := 9) hc) (.slice (some ⟨g, 0, none⟩) 1 1) 1 [.string z] hsrc (by unfold maxLen; omega) (by omega)
  have htape : w'.tape = w.tape := by
    by_cases hr : l.length + 1 ≤ cap
    · obtain rfl := hc.addr (by omega)
      have h1 := run_append_room_src (P := Tryd.prog) (w := w) 28 28 o.type 9 i0 Tryd.underlying28 hi b off l.length cap (.slice (some ⟨g, 0, none⟩) 1 1) 1 [.string z] (by rw [hz1]; exact hsrc) hr (fun j hj => ?_) (fun j hj => ?_)
      · rw [hrun] at h1
        cases h1
        rfl
      · simp only [List.length_cons, List.length_nil] at hj
        rw [hz1]
        exact (hc.spare j (by omega)).1
      · simp only [List.length_cons, List.length_nil] at hj
        rw [hz1]
        exact (hc.spare j (by omega)).2
    · have hold : (Builtin.firstCells i0.size l.length (.slice ao l.length cap)).run Tryd.prog w.drew = .ok (sc l).toArray w.drew := by
        rw [hz1]
        cases ao with
        | none =>
          have h0 : cap = 0 := by
            rcases Nat.eq_zero_or_pos cap with h0 | h0
            · exact h0
            · exact absurd (hc.addr h0) (by simp)
          subst h0
          obtain rfl : l = [] := List.length_eq_zero_iff.1 (by omega)
          exact (Go.Src.ofNil (P := Tryd.prog) (w := w) (size := 1) Tryd.underlying28 0).cellsD
        | some ad =>
          refine (Go.Src.ofSlice (P := Tryd.prog) (w := w) (size := 1) Tryd.underlying28 ad l.length cap (sc l) (by simp [sc]) (fun j u hu => ?_) (sc_one l)).cellsD
          have hj := (List.getElem?_eq_some_iff.1 hu).1
          have hj2 : (sc l).length = l.length := by simp [sc]
          have e := hc.addr (by omega)
          simp only [Option.some.injEq] at e
          subst e
          rw [Addr.add_lit]
          exact hc.olds j u hu
      have h1 := run_append_grow_src (P := Tryd.prog) w 28 28 o.type 9 i0 (.string ⟨#[]⟩) Tryd.underlying28 hi hz0 ao l.length cap (sc l) hold (.slice (some ⟨g, 0, none⟩) 1 1) 1 [.string z] (by rw [hz1]; exact hsrc) (by omega) (by omega) (growslice_fits (by omega) (by rw [hz2]; omega))
      rw [hrun] at h1
      cases h1
      rfl
  obtain ⟨ao', b', off', cap', hv', hc', hp', hb'⟩ := came_next hc hU
  have hsz := hU.kept.size
  have hblk : ∀ k, k < w.heap.size → (k ≠ b ∨ cap = 0) → w'.heap[k]? = w.heap[k]? := fun k hk hkb => hU.kept.block hk (fun p hp => by
    obtain ⟨j, hj, rfl⟩ := hp
    have := hU.capPos hj
    intro e
    have e : b = k := e
    omega)
  have hlo : ∀ k, F k → w'.heap[k]? = w.heap[k]? := fun k hk => hblk k (S.lt hM.ld hk) (by
    rcases Nat.eq_zero_or_pos cap with h0 | h0
    · exact Or.inr h0
    · exact Or.inl (fun e => (hn h0).2 (e ▸ hk)))
  have hMs := hM.below.size
  have hbel : Below W.heap.size w w' := ⟨hU.kept.1, htape, hU.kept.2.1, hsz, fun k hk => hblk k (by omega) (by
    rcases Nat.eq_zero_or_pos cap with h0 | h0
    · exact Or.inr h0
    · exact Or.inl (fun e => by have := (hn h0).1; omega))⟩
  refine wpList_plain hgd fun _ hK => ?_
  unfold Oper.wp execOp
  simp only [ho, resolve, invoke, builtin, Sem.run_bind, Sem.run_pure, Result.andThen_ok, List.map_toArray, List.map_cons, List.map_nil, hs, hx, hrun]
  refine hK _ _ (h v' w' ⟨S.keep hM.ld hlo, hM.fine, hM.hi, hM.below.trans hbel⟩ ⟨ao', b', off', cap', by rw [hv']; simp, ?_, fun _ => ?_⟩)
  · have e : sc (l ++ [z]) = sc l ++ [.string z] := by simp [sc]
    rw [e, List.length_append]
    exact hc'
  · rcases hb' with ⟨rfl, h0⟩ | h0
    · exact hn h0
    · exact ⟨by omega, fun e => by have := S.lt hM.ld e; omega⟩
end Go.Proofs.YtfcbdjjbchcpjaaDoor
