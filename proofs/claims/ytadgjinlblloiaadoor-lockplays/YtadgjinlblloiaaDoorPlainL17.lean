/- Paths that are held, plainly. -/
import Derived.Test.YtadgjinlblloiaaDoorLibP
namespace Go.Proofs.YtadgjinlblloiaaDoor.Lk
open Go

structure Hd where
  path : ByteArray
  who : Int
abbrev St := List Hd
def good (p : ByteArray) : Bool := Pl.goodB p.data.toList
/-- Has it a Parent? -/
def under (p : ByteArray) : Bool := good p && decide (2 ≤ (Pl.parts p.data.toList).length)
def up (p : ByteArray) : ByteArray := ⟨(Pl.parent p.data.toList).toArray⟩
def near (p q : ByteArray) : Bool := decide (q = p) || (under p && decide (q = up p)) || (under q && decide (up q = p))
def bars (who : Int) (p : ByteArray) (x : Hd) : Bool := decide (x.who ≠ who) && near p x.path
def blocks (s : St) (who : Int) (p : ByteArray) : Bool := good p && s.any (bars who p)
def held (s : St) (p : ByteArray) : Option Int := (s.find? fun x => decide (x.path = p)).map Hd.who
def add (who : Int) (s : St) (p : ByteArray) : St := if (held s p).isSome then s else s ++ [⟨p, who⟩]
def adds (who : Int) (s : St) (ps : List ByteArray) : St := ps.foldl (add who) s
/-- What is told where a Take fails. -/
def faulty (s : St) (who : Int) (ps : List ByteArray) : Option ByteArray :=
  match ps.find? (fun p => !good p) with
  | some p => some p
  | none => ps.find? (blocks s who)
def take (s : St) (who : Int) (ps : List ByteArray) : ByteArray × Bool × St :=
  match faulty s who ps with
  | some p => (p, false, s)
  | none => (⟨#[]⟩, true, adds who s ps)
def rest (s : St) (who : Int) : St := s.filter fun x => decide (x.who ≠ who)
def free (s : St) (who : Int) : Int := (s.length : Int) - ((rest s who).length : Int)
structure Fine (m : Nat) (s : St) : Prop where
  good : ∀ x ∈ s, good x.path = true
  uniq : s.Pairwise fun x y => x.path ≠ y.path
  apart : ∀ x ∈ s, ∀ y ∈ s, near x.path y.path = true → x.who = y.who
  rng : ∀ x ∈ s, -9223372036854775808 ≤ x.who ∧ x.who ≤ 9223372036854775807
  len : s.length ≤ m
theorem Fine.nil : Fine 0 [] := ⟨fun _ h => (by cases h), List.Pairwise.nil, fun _ h => (by cases h), fun _ h => (by cases h), Nat.le_refl _⟩
theorem Fine.mono {m n : Nat} {s : St} (h : Fine m s) (hm : m ≤ n) : Fine n s := ⟨h.good, h.uniq, h.apart, h.rng, Nat.le_trans h.len hm⟩
theorem near_self (p : ByteArray) : near p p = true := by unfold near; simp
theorem near_symm {p q : ByteArray} : near p q = near q p := by
  unfold near
  have e1 : decide (q = p) = decide (p = q) := by simp only [eq_comm]
  have e2 : decide (q = up p) = decide (up p = q) := by simp only [eq_comm]
  have e3 : decide (up q = p) = decide (p = up q) := by simp only [eq_comm]
  rw [e1, e2, e3]
  cases decide (p = q) <;> cases (under p && decide (up p = q)) <;> cases (under q && decide (p = up q)) <;> rfl
theorem near_up {p : ByteArray} (h : under p = true) : near p (up p) = true := by unfold near; simp [h]

/-! Who holds it. -/
theorem held_some {s : St} {p : ByteArray} {a : Int} (h : held s p = some a) : ∃ x ∈ s, x.path = p ∧ x.who = a := by
  unfold held at h
  cases e : s.find? (fun x => decide (x.path = p)) with
  | none => rw [e] at h; cases h
  | some x =>
    rw [e] at h
    have h1 := List.find?_some e
    exact ⟨x, List.mem_of_find?_eq_some e, by simpa using h1, by simpa using h⟩
theorem held_none {s : St} {p : ByteArray} : held s p = none ↔ ∀ x ∈ s, x.path ≠ p := by
  unfold held
  rw [Option.map_eq_none_iff, List.find?_eq_none]
  simp
theorem uniq_eq {s : St} (h : s.Pairwise fun x y => x.path ≠ y.path) {x y : Hd} (hx : x ∈ s) (hy : y ∈ s) (e : x.path = y.path) : x = y := by
  induction s with
  | nil => cases hx
  | cons z s ih =>
    rw [List.pairwise_cons] at h
    rcases List.mem_cons.1 hx with e1 | h1 <;> rcases List.mem_cons.1 hy with e2 | h2
    · rw [e1, e2]
    · exact absurd e (by rw [e1]; exact h.1 y h2)
    · exact absurd e.symm (by rw [e2]; exact h.1 x h1)
    · exact ih h.2 h1 h2
theorem held_mem {m : Nat} {s : St} (h : Fine m s) {x : Hd} (hx : x ∈ s) : held s x.path = some x.who := by
  cases e : held s x.path with
  | none => exact absurd rfl (held_none.1 e x hx)
  | some a =>
    obtain ⟨y, hy, hp, rfl⟩ := held_some e
    rw [uniq_eq h.uniq hy hx hp]
theorem held_good {m : Nat} {s : St} (h : Fine m s) {p : ByteArray} {a : Int} (e : held s p = some a) : good p = true := by
  obtain ⟨x, hx, rfl, _⟩ := held_some e
  exact h.good x hx
theorem held_rng {m : Nat} {s : St} (h : Fine m s) {p : ByteArray} {a : Int} (e : held s p = some a) : -9223372036854775808 ≤ a ∧ a ≤ 9223372036854775807 := by
  obtain ⟨x, hx, _, rfl⟩ := held_some e
  exact h.rng x hx
/-- What is held is not blocked for its own. -/
theorem held_free {m : Nat} {s : St} (h : Fine m s) {p : ByteArray} {a : Int} (e : held s p = some a) : blocks s a p = false := by
  obtain ⟨x, hx, rfl, rfl⟩ := held_some e
  cases hb : blocks s x.who x.path with
  | false => rfl
  | true =>
    unfold blocks at hb
    rw [Bool.and_eq_true, List.any_eq_true] at hb
    obtain ⟨_, y, hy, hbar⟩ := hb
    unfold bars at hbar
    rw [Bool.and_eq_true] at hbar
    have h1 := h.apart x hx y hy hbar.2
    have h2 := of_decide_eq_true hbar.1
    exact absurd h1.symm h2
theorem held_bars {m : Nat} {s : St} (h : Fine m s) {p : ByteArray} {a b : Int} (e : held s p = some a) (hb : b ≠ a) : blocks s b p = true := by
  have hg := held_good h e
  obtain ⟨x, hx, rfl, rfl⟩ := held_some e
  unfold blocks
  rw [hg, Bool.true_and, List.any_eq_true]
  exact ⟨x, hx, by unfold bars; rw [near_self, Bool.and_true]; exact decide_eq_true (fun e => hb e.symm)⟩
theorem held_up {m : Nat} {s : St} (h : Fine m s) {p : ByteArray} {a b : Int} (e : held s p = some a) (hu : under p = true) (f : held s (up p) = some b) : a = b := by
  obtain ⟨x, hx, rfl, rfl⟩ := held_some e
  obtain ⟨y, hy, hp, rfl⟩ := held_some f
  exact h.apart x hx y hy (by rw [hp]; exact near_up hu)

/-! Take. -/
theorem blocks_snoc (s : St) (who : Int) (p q : ByteArray) : blocks (s ++ [⟨p, who⟩]) who q = blocks s who q := by
  unfold blocks
  rw [List.any_append]
  have e : [(⟨p, who⟩ : Hd)].any (bars who q) = false := by simp [bars]
  rw [e, Bool.or_false]
theorem blocks_add (s : St) (who : Int) (p q : ByteArray) : blocks (add who s p) who q = blocks s who q := by
  unfold add
  split
  · rfl
  · exact blocks_snoc s who p q
theorem held_snoc (s : St) (who : Int) (p q : ByteArray) : held (s ++ [⟨p, who⟩]) q = (held s q).or (if p = q then some who else none) := by
  unfold held
  rw [List.find?_append]
  cases e : s.find? (fun x => decide (x.path = q)) with
  | some x => simp
  | none =>
    by_cases h : p = q
    · simp [h]
    · simp [h]
theorem held_add_old {s : St} {who : Int} {p q : ByteArray} {a : Int} (h : held s q = some a) : held (add who s p) q = some a := by
  unfold add
  split
  · exact h
  · rw [held_snoc, h]
    rfl
theorem not_bars {s : St} {who : Int} {p : ByteArray} (hg : good p = true) (h : blocks s who p = false) : ∀ y ∈ s, near p y.path = true → y.who = who := fun y hy hn => by
  unfold blocks at h
  rw [hg, Bool.true_and, List.any_eq_false] at h
  have h1 := h y hy
  unfold bars at h1
  rw [hn, Bool.and_true] at h1
  simpa using h1
theorem held_add_new {s : St} {who : Int} {p : ByteArray} (hg : good p = true) (h : blocks s who p = false) : held (add who s p) p = some who := by
  unfold add
  cases e : held s p with
  | none =>
    rw [if_neg (by simp), held_snoc, e]
    simp
  | some a =>
    rw [if_pos (by simp), e]
    obtain ⟨x, hx, rfl, rfl⟩ := held_some e
    rw [not_bars hg h x hx (near_self _)]
theorem Fine.add {m : Nat} {s : St} (h : Fine m s) {who : Int} (hw : -9223372036854775808 ≤ who ∧ who ≤ 9223372036854775807) {p : ByteArray} (hg : Lk.good p = true) (hb : blocks s who p = false) : Fine (m + 1) (add who s p) := by
  unfold Lk.add
  split
  · exact h.mono (Nat.le_succ _)
  · rename_i hn
    have hno : ∀ x ∈ s, x.path ≠ p := held_none.1 (by simpa using hn)
    refine ⟨fun x hx => ?_, ?_, fun x hx y hy hxy => ?_, fun x hx => ?_, by rw [List.length_append]; have := h.len; simp only [List.length_cons, List.length_nil]; omega⟩
    · rcases List.mem_append.1 hx with hx | hx
      · exact h.good x hx
      · rw [List.mem_singleton.1 hx]
        exact hg
    · rw [List.pairwise_append]
      exact ⟨h.uniq, List.pairwise_singleton _ _, fun x hx y hy => by rw [List.mem_singleton.1 hy]; exact hno x hx⟩
    · rcases List.mem_append.1 hx with hx | hx <;> rcases List.mem_append.1 hy with hy | hy
      · exact h.apart x hx y hy hxy
      · rw [List.mem_singleton.1 hy] at hxy ⊢
        rw [near_symm] at hxy
        exact not_bars hg hb x hx hxy
      · rw [List.mem_singleton.1 hx] at hxy ⊢
        exact (not_bars hg hb y hy hxy).symm
      · rw [List.mem_singleton.1 hx, List.mem_singleton.1 hy]
    · rcases List.mem_append.1 hx with hx | hx
      · exact h.rng x hx
      · rw [List.mem_singleton.1 hx]
        exact hw
theorem Fine.adds {who : Int} (hw : -9223372036854775808 ≤ who ∧ who ≤ 9223372036854775807) : ∀ {ps : List ByteArray} {m : Nat} {s : St}, Fine m s → (∀ p ∈ ps, Lk.good p = true) → (∀ p ∈ ps, blocks s who p = false) → Fine (m + ps.length) (adds who s ps)
  | [], m, s, h, _, _ => h
  | p :: ps, m, s, h, hg, hb => by
    have h1 := h.add hw (hg p (by simp)) (hb p (by simp))
    have h2 := Fine.adds hw (ps := ps) h1 (fun q hq => hg q (by simp [hq])) (fun q hq => by rw [blocks_add]; exact hb q (by simp [hq]))
    have e : m + 1 + ps.length = m + (p :: ps).length := by rw [List.length_cons]; omega
    rw [← e]
    exact h2
theorem adds_old {who : Int} {q : ByteArray} {a : Int} : ∀ {ps : List ByteArray} {s : St}, held s q = some a → held (adds who s ps) q = some a
  | [], _, h => h
  | _ :: ps, _, h => adds_old (ps := ps) (held_add_old h)
theorem adds_all {who : Int} : ∀ {ps : List ByteArray} {s : St}, (∀ p ∈ ps, good p = true) → (∀ p ∈ ps, blocks s who p = false) → ∀ p ∈ ps, held (adds who s ps) p = some who
  | [], _, _, _, _, hp => by cases hp
  | q :: ps, s, hg, hb, p, hp => by
    rcases List.mem_cons.1 hp with rfl | hp
    · exact adds_old (ps := ps) (s := add who s p) (held_add_new (hg p (by simp)) (hb p (by simp)))
    · exact adds_all (ps := ps) (fun x hx => hg x (by simp [hx])) (fun x hx => by rw [blocks_add]; exact hb x (by simp [hx])) p hp
theorem faulty_none {s : St} {who : Int} {ps : List ByteArray} (h : faulty s who ps = none) : (∀ p ∈ ps, good p = true) ∧ ∀ p ∈ ps, blocks s who p = false := by
  unfold faulty at h
  split at h
  · cases h
  · rename_i e
    exact ⟨fun p hp => by simpa using List.find?_eq_none.1 e p hp, fun p hp => by simpa using List.find?_eq_none.1 h p hp⟩
theorem faulty_some {s : St} {who : Int} {ps : List ByteArray} {p : ByteArray} (h : faulty s who ps = some p) : p ∈ ps := by
  unfold faulty at h
  split at h
  · rename_i e
    rw [← Option.some.inj h]
    exact List.mem_of_find?_eq_some e
  · exact List.mem_of_find?_eq_some h
theorem faulty_ok {s : St} {who : Int} {ps : List ByteArray} (hg : ∀ p ∈ ps, good p = true) (hb : ∀ p ∈ ps, blocks s who p = false) : faulty s who ps = none := by
  unfold faulty
  have e : ps.find? (fun p => !good p) = none := List.find?_eq_none.2 fun p hp => by simp [hg p hp]
  rw [e]
  exact List.find?_eq_none.2 fun p hp => by simp [hb p hp]
theorem take_no {s : St} {who : Int} {ps : List ByteArray} {p : ByteArray} (h : faulty s who ps = some p) : take s who ps = (p, false, s) := by unfold take; rw [h]
theorem take_yes {s : St} {who : Int} {ps : List ByteArray} (h : faulty s who ps = none) : take s who ps = (⟨#[]⟩, true, adds who s ps) := by unfold take; rw [h]
theorem Fine.take {m : Nat} {s : St} (h : Fine m s) {who : Int} (hw : -9223372036854775808 ≤ who ∧ who ≤ 9223372036854775807) (ps : List ByteArray) : Fine (m + ps.length) (take s who ps).2.2 := by
  cases e : faulty s who ps with
  | some p => rw [take_no e]; exact h.mono (Nat.le_add_right _ _)
  | none =>
    rw [take_yes e]
    exact h.adds hw (faulty_none e).1 (faulty_none e).2
/-- What comes to it is who's. -/
theorem adds_ext (who : Int) : ∀ (ps : List ByteArray) (s : St), ∃ t, adds who s ps = s ++ t ∧ ∀ x ∈ t, x.who = who ∧ x.path ∈ ps
  | [], s => ⟨[], by simp [adds], fun _ h => by cases h⟩
  | p :: ps, s => by
    obtain ⟨t, h1, h2⟩ := adds_ext who ps (add who s p)
    have e : adds who s (p :: ps) = adds who (add who s p) ps := rfl
    rw [e, h1]
    unfold add
    split
    · exact ⟨t, rfl, fun x hx => ⟨(h2 x hx).1, List.mem_cons_of_mem _ (h2 x hx).2⟩⟩
    · refine ⟨⟨p, who⟩ :: t, by simp, fun x hx => ?_⟩
      rcases List.mem_cons.1 hx with rfl | hx
      · exact ⟨rfl, by simp⟩
      · exact ⟨(h2 x hx).1, List.mem_cons_of_mem _ (h2 x hx).2⟩
theorem take_ext (s : St) (who : Int) (ps : List ByteArray) : ∃ t, (take s who ps).2.2 = s ++ t ∧ ∀ x ∈ t, x.who = who ∧ x.path ∈ ps := by
  cases e : faulty s who ps with
  | some p => rw [take_no e]; exact ⟨[], by simp, fun _ h => by cases h⟩
  | none => rw [take_yes e]; exact adds_ext who ps s

/-! Free. -/
theorem mem_rest {s : St} {who : Int} {x : Hd} (h : x ∈ rest s who) : x ∈ s := (List.mem_filter.1 h).1
theorem Fine.rest {m : Nat} {s : St} (h : Fine m s) (who : Int) : Fine m (rest s who) :=
  ⟨fun x hx => h.good x (mem_rest hx), h.uniq.filter _, fun x hx y hy => h.apart x (mem_rest hx) y (mem_rest hy), fun x hx => h.rng x (mem_rest hx), Nat.le_trans (List.length_filter_le _ _) h.len⟩
theorem rest_rest (s : St) (who : Int) : rest (rest s who) who = rest s who := by unfold rest; rw [List.filter_filter]; simp
theorem free_rest (s : St) (who : Int) : free (rest s who) who = 0 := by unfold free; rw [rest_rest]; omega
theorem free_nonneg (s : St) (who : Int) : 0 ≤ free s who ∧ free s who ≤ s.length := by
  unfold free rest
  have := List.length_filter_le (fun x : Hd => decide (x.who ≠ who)) s
  omega
theorem rest_all {s : St} {who : Int} (h : ∀ x ∈ s, x.who = who) : rest s who = [] := by
  unfold rest
  rw [List.filter_eq_nil_iff]
  intro x hx
  simp [h x hx]
theorem rest_none {s : St} {who : Int} (h : ∀ x ∈ s, x.who ≠ who) : rest s who = s := by
  unfold rest
  rw [List.filter_eq_self]
  intro x hx
  simp [h x hx]
theorem rest_two {s t : St} {a b : Int} (hs : ∀ x ∈ s, x.who = a) (ht : ∀ x ∈ t, x.who = b) (hab : b ≠ a) : rest (s ++ t) a = t := by
  have e : rest (s ++ t) a = rest s a ++ rest t a := by unfold rest; rw [List.filter_append]
  rw [e, rest_all hs, rest_none (fun x hx => by rw [ht x hx]; exact hab), List.nil_append]

/-! Of unlike first names. -/
theorem near_top {p q : ByteArray} (hp : good p = true) (hq : good q = true) (h : near p q = true) : Pl.top p.data.toList = Pl.top q.data.toList := by
  unfold near at h
  rw [Bool.or_eq_true, Bool.or_eq_true, Bool.and_eq_true, Bool.and_eq_true] at h
  have key : ∀ {x y : ByteArray}, good x = true → under x = true → y = up x → Pl.top y.data.toList = Pl.top x.data.toList := fun {x y} hg hu e => by
    unfold under at hu
    rw [Bool.and_eq_true] at hu
    rw [e]
    exact Pl.top_parent hg (of_decide_eq_true hu.2)
  rcases h with (h | h) | h
  · rw [of_decide_eq_true h]
  · exact (key hp h.1 (of_decide_eq_true h.2)).symm
  · exact key hq h.1 (of_decide_eq_true h.2).symm
theorem far_blocks {s : St} {who : Int} {p : ByteArray} (hs : ∀ x ∈ s, good x.path = true ∧ Pl.top p.data.toList ≠ Pl.top x.path.data.toList) : blocks s who p = false := by
  cases hb : blocks s who p with
  | false => rfl
  | true =>
    unfold blocks at hb
    rw [Bool.and_eq_true, List.any_eq_true] at hb
    obtain ⟨hg, y, hy, hbar⟩ := hb
    unfold bars at hbar
    rw [Bool.and_eq_true] at hbar
    exact absurd (near_top hg (hs y hy).1 hbar.2) (hs y hy).2
theorem blocks_nil (who : Int) (p : ByteArray) : blocks [] who p = false := by unfold blocks; simp
end Go.Proofs.YtadgjinlblloiaaDoor.Lk
