/- What the statements lean on: the Ops of all shards are all Ops. Plain reckoning, no program. -/
import Derived.Test.YtjimemnkmpapgaaGreatDoorPn19
import Derived.Test.YtjimemnkmpapgaaGreatDoorPlainT
import Derived.Test.YtjimemnkmpapgaaGreatDoorBox
namespace Go.Proofs.YtjimemnkmpapgaaGreatDoor.Pn

theorem may_good {s n : Int} {os : List O} (h : Oq.may s n os = 0) : ∀ o ∈ os, Pl.goodB o.path.data.toList = true := by
  have hb : Oq.firstBad os = 0 := by
    unfold Oq.may at h
    split at h
    · cases h
    · split at h
      · cases h
      · split at h
        · rename_i hne
          exact absurd h hne
        · rename_i hne
          exact Classical.not_not.1 hne
  intro o ho
  have hg := firstBad_none hb o ho
  unfold Oq.good at hg
  cases e : Oq.headB o with
  | true => rw [e] at hg; cases hg
  | false => exact (Oq.head_no e).2.2.1
def sumL (ls : List (List Int)) : Nat := (ls.map List.length).sum
theorem plA_sum : ∀ ls : List (List Int), sumL (plA ls) = sumL ls
  | [] => rfl
  | l :: ls => by
    have ih := plA_sum ls
    unfold plA
    by_cases h : l = []
    · rw [if_pos h, ih, h]
      simp [sumL]
    · rw [if_neg h]
      unfold sumL at ih ⊢
      simp [ih]
theorem sum_zero : ∀ {l : List Nat}, (∀ x ∈ l, x = 0) → l.sum = 0
  | [], _ => rfl
  | x :: l, h => by rw [List.sum_cons, h x List.mem_cons_self, sum_zero fun y hy => h y (List.mem_cons_of_mem _ hy)]
theorem range_one (S : Nat) (z : Int) (h0 : 0 ≤ z) (h1 : z < (S : Int)) : ((List.range S).map fun k : Nat => if z = (k : Int) then 1 else 0).sum = 1 := by
  induction S with
  | zero => omega
  | succ S ih =>
    rw [List.range_succ, List.map_append, List.sum_append]
    by_cases h : z = (S : Int)
    · have e : ((List.range S).map fun k : Nat => if z = (k : Int) then 1 else 0).sum = 0 := by
        apply sum_zero
        intro x hx
        obtain ⟨k, hk, rfl⟩ := List.mem_map.1 hx
        have := List.mem_range.1 hk
        rw [if_neg (by omega)]
      rw [e]
      simp [h]
    · rw [ih (by omega)]
      simp [h]
theorem map_add (l : List Nat) (f g : Nat → Nat) : (l.map fun k => f k + g k).sum = (l.map f).sum + (l.map g).sum := by
  induction l with
  | nil => rfl
  | cons x l ih => simp only [List.map_cons, List.sum_cons, ih]; omega
theorem split_sum (f : ByteArray → Int) (S : Nat) : ∀ (i : Nat) (ps : List ByteArray), (∀ p ∈ ps, 0 ≤ f p ∧ f p < (S : Int)) → ((List.range S).map fun k : Nat => (Tb.placesA f (k : Int) i ps).length).sum = ps.length
  | _, [], _ => by
    have h0 : ((List.range S).map fun k : Nat => (Tb.placesA f (k : Int) 0 []).length).sum = 0 := by
      apply sum_zero
      intro x hx
      obtain ⟨k, _, rfl⟩ := List.mem_map.1 hx
      rfl
    exact h0
  | i, p :: ps, h => by
    have ih := split_sum f S (i + 1) ps fun q hq => h q (List.mem_cons_of_mem _ hq)
    have h1 := h p List.mem_cons_self
    have e : (fun k : Nat => (Tb.placesA f (k : Int) i (p :: ps)).length) = fun k : Nat => (if f p = (k : Int) then 1 else 0) + (Tb.placesA f (k : Int) (i + 1) ps).length := by
      funext k
      show (if f p = (k : Int) then (i : Int) :: Tb.placesA f (k : Int) (i + 1) ps else Tb.placesA f (k : Int) (i + 1) ps).length = _
      split <;> simp <;> omega
    rw [e, map_add, range_one S (f p) h1.1 h1.2, ih, List.length_cons]
    omega
/-- The shards' Ops are as many as the request's. -/
theorem of_sum {t : Tb.St} {m : Int} (ht : Tb.Fine m t) (s n : Int) {os : List O} (hg : ∀ o ∈ os, Pl.goodB o.path.data.toList = true) : sumL (of t s n os).pl = os.length := by
  show sumL (plA (Tb.split t (os.map O.path))) = os.length
  rw [plA_sum]
  unfold sumL Tb.split Tb.places
  rw [List.map_map]
  have h := split_sum (Tb.of t) t.shards.toNat 0 (os.map O.path) (fun p hp => by
    obtain ⟨o, ho, rfl⟩ := List.mem_map.1 hp
    have h1 := Tb.of_good ht (hg o ho)
    have h2 := ht.sh1
    omega)
  rw [List.length_map] at h
  exact h
theorem sum_take {ls : List (List Int)} {k : Nat} {l : List Int} (h : ls[k]? = some l) : sumL (ls.take (k + 1)) = sumL (ls.take k) + l.length := by
  unfold sumL
  rw [List.take_add_one, h, List.map_append, List.sum_append]
  simp
theorem sum_le (ls : List (List Int)) (k : Nat) : sumL (ls.take k) ≤ sumL ls := by
  have h : sumL ls = sumL (ls.take k) + sumL (ls.drop k) := by
    unfold sumL
    rw [← List.sum_append, ← List.map_append, List.take_append_drop]
  omega
/-- The Ops of a shard are its. -/
theorem ops_shard {t : Tb.St} {s n : Int} {os : List O} (ok : Ok (of t s n os)) {j k : Nat} {z : Int} {l : List Int} {o : O} (hz : (of t s n os).sh[j]? = some z) (hl : (of t s n os).pl[j]? = some l) (ho : (opsAt os l)[k]? = some o) : Tb.of t o.path = z := by
  have hr : ∀ z ∈ l, 0 ≤ z ∧ z < (os.length : Int) := ok.rng l (List.mem_of_getElem? hl)
  rw [opsAt_get hr] at ho
  cases e : l[k]? with
  | none => rw [e] at ho; cases ho
  | some y =>
    rw [e] at ho
    have hm := List.mem_of_getElem? e
    have h1 := hr y hm
    obtain ⟨m, rfl⟩ : ∃ m : Nat, y = (m : Int) := ⟨y.toNat, by omega⟩
    have ho2 : os[m]? = some o := by simpa using ho
    exact (of_mem s n hz hl ho2).1 hm
/-- All of one shard: it is one, and has all. -/
theorem one_shard {t : Tb.St} {m : Int} (ht : Tb.Fine m t) (s n : Int) {os : List O} (h16 : os.length ≤ 16) (hg : ∀ o ∈ os, Pl.goodB o.path.data.toList = true) {o0 : O} (h0 : os[0]? = some o0) (hall : ∀ o ∈ os, Tb.of t o.path = Tb.of t o0.path) :
    (of t s n os).sh = [Tb.of t o0.path] ∧ ∃ l, (of t s n os).pl = [l] ∧ l.length = os.length := by
  have ok := Ok.of ht s n h16
  obtain ⟨j, l, h1, h2, _⟩ := of_has ht s n h0 (hg o0 (List.mem_of_getElem? h0))
  have hz : ∀ (i : Nat) z, (of t s n os).sh[i]? = some z → z = Tb.of t o0.path := fun i z hi => by
    have hi2 := (List.getElem?_eq_some_iff.1 hi).1
    obtain ⟨l', hl'⟩ : ∃ l', (of t s n os).pl[i]? = some l' := ⟨(of t s n os).pl[i]'(by rw [← ok.len]; exact hi2), List.getElem?_eq_getElem _⟩
    have hne := ok.ne l' (List.mem_of_getElem? hl')
    have hr := ok.rng l' (List.mem_of_getElem? hl')
    cases l' with
    | nil => exact absurd rfl hne
    | cons y r =>
      have h3 := hr y List.mem_cons_self
      have h4 : y.toNat < os.length := by
        have : (of t s n os).os.length = os.length := rfl
        omega
      have h5 : os[y.toNat]? = some os[y.toNat] := List.getElem?_eq_getElem h4
      have h6 := (of_mem s n hi hl' h5).1 (by rw [show ((y.toNat : Nat) : Int) = y by omega]; exact List.mem_cons_self)
      rw [← h6]
      exact hall _ (List.getElem_mem h4)
  have hlen : (of t s n os).sh.length = 1 := by
    have h3 := (List.getElem?_eq_some_iff.1 h1).1
    apply Classical.byContradiction
    intro hne
    have a0 : (of t s n os).sh[0]? = some ((of t s n os).sh[0]'(by omega)) := List.getElem?_eq_getElem _
    have a1 : (of t s n os).sh[1]? = some ((of t s n os).sh[1]'(by omega)) := List.getElem?_eq_getElem _
    have b := List.pairwise_iff_getElem.1 ok.rise 0 1 (by omega) (by omega) (by omega)
    rw [hz 0 _ a0, hz 1 _ a1] at b
    omega
  have hs := of_sum ht s n hg
  have hpl : (of t s n os).pl.length = 1 := by rw [← ok.len]; exact hlen
  constructor
  · match e : (of t s n os).sh, hlen with
    | [z], _ =>
      have := hz 0 z (by rw [e]; rfl)
      rw [this]
  · match e : (of t s n os).pl, hpl with
    | [l'], _ =>
      rw [e] at hs
      exact ⟨l', rfl, by simpa [sumL] using hs⟩

theorem putL_len : ∀ (l : List Int) (acc : List X) (xs : List X), (putL acc l xs).length = acc.length
  | [], acc, xs => by rw [putL_nil]
  | z :: l, acc, [] => rfl
  | z :: l, acc, x :: xs => by
    show (putL (acc.set z.toNat x) l xs).length = _
    rw [putL_len l, List.length_set]
theorem putL_get (f : Int → X) : ∀ (l : List Int) (acc : List X) (y : Nat), (∀ z ∈ l, 0 ≤ z ∧ z < (acc.length : Int)) → (putL acc l (l.map f))[y]? = if (y : Int) ∈ l then some (f (y : Int)) else acc[y]?
  | [], acc, y, _ => by simp [putL_nil]
  | z :: l, acc, y, h => by
    have h1 := h z List.mem_cons_self
    show (putL (acc.set z.toNat (f z)) l (l.map f))[y]? = _
    rw [putL_get f l _ y (fun q hq => by rw [List.length_set]; exact h q (List.mem_cons_of_mem _ hq))]
    by_cases hy : (y : Int) ∈ l
    · rw [if_pos hy, if_pos (List.mem_cons_of_mem _ hy)]
    · rw [if_neg hy]
      by_cases e : z = (y : Int)
      · subst e
        rw [if_pos List.mem_cons_self, show ((y : Int)).toNat = y by omega, List.getElem?_set_self (by omega)]
      · rw [if_neg (fun k => (List.mem_cons.1 k).elim (fun e2 => e e2.symm) hy), List.getElem?_set_ne (by omega)]
theorem resA_all (f : Int → X) : ∀ (pl : List (List Int)) (acc : List X), (∀ l ∈ pl, ∀ z ∈ l, 0 ≤ z ∧ z < (acc.length : Int)) →
    ∃ r, resA pl (pl.map (List.map f)) acc = some r ∧ r.length = acc.length ∧ ∀ y : Nat, ((∃ l ∈ pl, (y : Int) ∈ l) → r[y]? = some (f (y : Int))) ∧ ((¬ ∃ l ∈ pl, (y : Int) ∈ l) → r[y]? = acc[y]?)
  | [], acc, _ => ⟨acc, rfl, rfl, fun y => ⟨fun ⟨l, h, _⟩ => (by cases h), fun _ => rfl⟩⟩
  | l :: pl, acc, h => by
    obtain ⟨r, h1, h2, h3⟩ := resA_all f pl (putL acc l (l.map f)) (fun q hq z hz => by rw [putL_len]; exact h q (List.mem_cons_of_mem _ hq) z hz)
    refine ⟨r, ?_, by rw [h2, putL_len], fun y => ⟨fun hy => ?_, fun hn => ?_⟩⟩
    · show (if (l.map f).length = l.length then resA pl (pl.map (List.map f)) (putL acc l (l.map f)) else none) = some r
      rw [if_pos (List.length_map _), h1]
    · by_cases k : ∃ q ∈ pl, (y : Int) ∈ q
      · exact (h3 y).1 k
      · rw [(h3 y).2 k, putL_get f l acc y (h l List.mem_cons_self)]
        obtain ⟨q, hq, hyq⟩ := hy
        rcases List.mem_cons.1 hq with rfl | hq
        · rw [if_pos hyq]
        · exact absurd ⟨q, hq, hyq⟩ k
    · rw [(h3 y).2 (fun ⟨q, hq, hyq⟩ => hn ⟨q, List.mem_cons_of_mem _ hq, hyq⟩), putL_get f l acc y (h l List.mem_cons_self), if_neg (fun k => hn ⟨l, List.mem_cons_self, k⟩)]
def fz (os : List O) (φ : O → X) (z : Int) : X := match os[z.toNat]? with
  | some o => φ o
  | none => x0
theorem opsAt_map {os : List O} (φ : O → X) {l : List Int} (h : ∀ z ∈ l, 0 ≤ z ∧ z < (os.length : Int)) : (opsAt os l).map φ = l.map (fz os φ) := by
  apply List.ext_getElem?
  intro k
  rw [List.getElem?_map, List.getElem?_map, opsAt_get h]
  cases e : l[k]? with
  | none => rfl
  | some z =>
    have h1 := h z (List.mem_of_getElem? e)
    have h2 : os[z.toNat]? = some (os[z.toNat]'(by omega)) := List.getElem?_eq_getElem _
    show ((os[z.toNat]?).map φ) = some (fz os φ z)
    unfold fz
    rw [h2]
    rfl
/-- Put together: each stands at its Op's place. -/
theorem results_all {t : Tb.St} {m : Int} (ht : Tb.Fine m t) (s n : Int) {os : List O} (h16 : os.length ≤ 16) (hg : ∀ o ∈ os, Pl.goodB o.path.data.toList = true) (φ : O → X) :
    results (of t s n os) ((of t s n os).pl.map fun l => (opsAt os l).map φ) = some (os.map φ) := by
  have ok := Ok.of ht s n h16
  have hr : ∀ l ∈ (of t s n os).pl, ∀ z ∈ l, 0 ≤ z ∧ z < (os.length : Int) := ok.rng
  have e : ((of t s n os).pl.map fun l => (opsAt os l).map φ) = (of t s n os).pl.map (List.map (fz os φ)) := by
    apply List.map_congr_left
    intro l hl
    exact opsAt_map φ (hr l hl)
  unfold results
  rw [if_pos (by rw [List.length_map]; exact ok.len.symm), e]
  have e2 : (of t s n os).os.length = os.length := rfl
  rw [e2]
  obtain ⟨r, h1, h2, h3⟩ := resA_all (fz os φ) (of t s n os).pl (List.replicate os.length x0) (fun l hl z hz => by rw [List.length_replicate]; exact hr l hl z hz)
  rw [h1]
  congr 1
  apply List.ext_getElem?
  intro y
  rw [List.length_replicate] at h2
  by_cases hy : y < os.length
  · have ho : os[y]? = some os[y] := List.getElem?_eq_getElem hy
    obtain ⟨j, l, _, a2, a3⟩ := of_has ht s n ho (hg _ (List.getElem_mem hy))
    rw [(h3 y).1 ⟨l, List.mem_of_getElem? a2, a3⟩, List.getElem?_map, ho]
    unfold fz
    rw [show ((y : Int)).toNat = y by omega, ho]
    rfl
  · rw [List.getElem?_eq_none (by omega), List.getElem?_eq_none (by rw [List.length_map]; omega)]
end Go.Proofs.YtjimemnkmpapgaaGreatDoor.Pn
