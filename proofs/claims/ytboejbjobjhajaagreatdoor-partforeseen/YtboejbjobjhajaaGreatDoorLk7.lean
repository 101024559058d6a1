import Derived.Test.YtboejbjobjhajaaGreatDoorPln
import Derived.Test.YtboejbjobjhajaaGreatDoorBas
import Derived.Test.YtboejbjobjhajaaGreatDoorLibN
import Derived.Maps.OwnSet
import Derived.Maps.Ext
import Derived.WideKeyEntry
import Derived.DeepKeys4
import Derived.BigQuiet
import Derived.Deep.QuietTactic
namespace Go.Proofs.YtboejbjobjhajaaGreatDoor.Lk
open Go
structure Hd where
  path : ByteArray
  who : Int
abbrev St := List Hd
def good (p : ByteArray) : Bool := Pl.goodB p.data.toList
def under (p : ByteArray) : Bool := good p && decide (2 ≤ (Pl.parts p.data.toList).length)
def up (p : ByteArray) : ByteArray := ⟨(Pl.parent p.data.toList).toArray⟩
def near (p q : ByteArray) : Bool := decide (q = p) || (under p && decide (q = up p)) || (under q && decide (up q = p))
def bars (who : Int) (p : ByteArray) (x : Hd) : Bool := decide (x.who ≠ who) && near p x.path
def blocks (s : St) (who : Int) (p : ByteArray) : Bool := good p && s.any (bars who p)
def held (s : St) (p : ByteArray) : Option Int := (s.find? fun x => decide (x.path = p)).map Hd.who
def add (who : Int) (s : St) (p : ByteArray) : St := if (held s p).isSome then s else s ++ [⟨p, who⟩]
def adds (who : Int) (s : St) (ps : List ByteArray) : St := ps.foldl (add who) s
def faulty (s : St) (who : Int) (ps : List ByteArray) : Option ByteArray :=
  match ps.find? (fun p => !good p) with
  | some p => some p
  | none => ps.find? (blocks s who)
def take (s : St) (who : Int) (ps : List ByteArray) : ByteArray × Bool × St :=
  match faulty s who ps with
  | some p => (p, false, s)
  | none => (⟨#[]⟩, true, adds who s ps)
def rest (s : St) (who : Int) : St := s.filter fun x => decide (x.who ≠ who)
def free (s : St) (who : Int) : Int := (s.length : Int) - ((rest s who).length : Int)
structure Fine (m : Nat) (s : St) : Prop where
  good : ∀ x ∈ s, good x.path = true
  uniq : s.Pairwise fun x y => x.path ≠ y.path
  apart : ∀ x ∈ s, ∀ y ∈ s, near x.path y.path = true → x.who = y.who
  rng : ∀ x ∈ s, -9223372036854775808 ≤ x.who ∧ x.who ≤ 9223372036854775807
  len : s.length ≤ m
theorem Fine.nil : Fine 0 [] := ⟨fun _ h => (by cases h), List.Pairwise.nil, fun _ h => (by cases h), fun _ h => (by cases h), Nat.le_refl _⟩
theorem Fine.mono {m n : Nat} {s : St} (h : Fine m s) (hm : m ≤ n) : Fine n s := ⟨h.good, h.uniq, h.apart, h.rng, Nat.le_trans h.len hm⟩
theorem near_self (p : ByteArray) : near p p = true := by unfold near; simp
theorem near_symm {p q : ByteArray} : near p q = near q p := by
  unfold near
  have e1 : decide (q = p) = decide (p = q) := by simp only [eq_comm]
  have e2 : decide (q = up p) = decide (up p = q) := by simp only [eq_comm]
  have e3 : decide (up q = p) = decide (p = up q) := by simp only [eq_comm]
  rw [e1, e2, e3]
  cases decide (p = q) <;> cases (under p && decide (up p = q)) <;> cases (under q && decide (p = up q)) <;> rfl
/-! Who holds it. -/
theorem held_some {s : St} {p : ByteArray} {a : Int} (h : held s p = some a) : ∃ x ∈ s, x.path = p ∧ x.who = a := by
  unfold held at h
  cases e : s.find? (fun x => decide (x.path = p)) with
  | none => rw [e] at h; cases h
  | some x =>
    rw [e] at h
    have h1 := List.find?_some e
    exact ⟨x, List.mem_of_find?_eq_some e, by simpa using h1, by simpa using h⟩
theorem held_none {s : St} {p : ByteArray} : held s p = none ↔ ∀ x ∈ s, x.path ≠ p := by
  unfold held
  rw [Option.map_eq_none_iff, List.find?_eq_none]
  simp
theorem uniq_eq {s : St} (h : s.Pairwise fun x y => x.path ≠ y.path) {x y : Hd} (hx : x ∈ s) (hy : y ∈ s) (e : x.path = y.path) : x = y := by
  induction s with
  | nil => cases hx
  | cons z s ih =>
    rw [List.pairwise_cons] at h
    rcases List.mem_cons.1 hx with e1 | h1 <;> rcases List.mem_cons.1 hy with e2 | h2
    · rw [e1, e2]
    · exact absurd e (by rw [e1]; exact h.1 y h2)
    · exact absurd e.symm (by rw [e2]; exact h.1 x h1)
    · exact ih h.2 h1 h2
theorem held_mem {m : Nat} {s : St} (h : Fine m s) {x : Hd} (hx : x ∈ s) : held s x.path = some x.who := by
  cases e : held s x.path with
  | none => exact absurd rfl (held_none.1 e x hx)
  | some a =>
    obtain ⟨y, hy, hp, rfl⟩ := held_some e
    rw [uniq_eq h.uniq hy hx hp]
theorem held_good {m : Nat} {s : St} (h : Fine m s) {p : ByteArray} {a : Int} (e : held s p = some a) : good p = true := by
  obtain ⟨x, hx, rfl, _⟩ := held_some e
  exact h.good x hx
/-! Take. -/
theorem blocks_snoc (s : St) (who : Int) (p q : ByteArray) : blocks (s ++ [⟨p, who⟩]) who q = blocks s who q := by
  unfold blocks
  rw [List.any_append]
  have e : [(⟨p, who⟩ : Hd)].any (bars who q) = false := by simp [bars]
  rw [e, Bool.or_false]
theorem blocks_add (s : St) (who : Int) (p q : ByteArray) : blocks (add who s p) who q = blocks s who q := by
  unfold add
  split
  · rfl
  · exact blocks_snoc s who p q
theorem held_snoc (s : St) (who : Int) (p q : ByteArray) : held (s ++ [⟨p, who⟩]) q = (held s q).or (if p = q then some who else none) := by
  unfold held
  rw [List.find?_append]
  cases e : s.find? (fun x => decide (x.path = q)) with
  | some x => simp
  | none =>
    by_cases h : p = q
    · simp [h]
    · simp [h]
theorem held_add_old {s : St} {who : Int} {p q : ByteArray} {a : Int} (h : held s q = some a) : held (add who s p) q = some a := by
  unfold add
  split
  · exact h
  · rw [held_snoc, h]
    rfl
theorem not_bars {s : St} {who : Int} {p : ByteArray} (hg : good p = true) (h : blocks s who p = false) : ∀ y ∈ s, near p y.path = true → y.who = who := fun y hy hn => by
  unfold blocks at h
  rw [hg, Bool.true_and, List.any_eq_false] at h
  have h1 := h y hy
  unfold bars at h1
  rw [hn, Bool.and_true] at h1
  simpa using h1
theorem held_add_new {s : St} {who : Int} {p : ByteArray} (hg : good p = true) (h : blocks s who p = false) : held (add who s p) p = some who := by
  unfold add
  cases e : held s p with
  | none =>
    rw [if_neg (by simp), held_snoc, e]
    simp
  | some a =>
    rw [if_pos (by simp), e]
    obtain ⟨x, hx, rfl, rfl⟩ := held_some e
    rw [not_bars hg h x hx (near_self _)]
theorem Fine.add {m : Nat} {s : St} (h : Fine m s) {who : Int} (hw : -9223372036854775808 ≤ who ∧ who ≤ 9223372036854775807) {p : ByteArray} (hg : Lk.good p = true) (hb : blocks s who p = false) : Fine (m + 1) (add who s p) := by
  unfold Lk.add
  split
  · exact h.mono (Nat.le_succ _)
  · rename_i hn
    have hno : ∀ x ∈ s, x.path ≠ p := held_none.1 (by simpa using hn)
    refine ⟨fun x hx => ?_, ?_, fun x hx y hy hxy => ?_, fun x hx => ?_, by rw [List.length_append]; have := h.len; simp only [List.length_cons, List.length_nil]; omega⟩
    · rcases List.mem_append.1 hx with hx | hx
      · exact h.good x hx
      · rw [List.mem_singleton.1 hx]
        exact hg
    · rw [List.pairwise_append]
      exact ⟨h.uniq, List.pairwise_singleton _ _, fun x hx y hy => by rw [List.mem_singleton.1 hy]; exact hno x hx⟩
    · rcases List.mem_append.1 hx with hx | hx <;> rcases List.mem_append.1 hy with hy | hy
      · exact h.apart x hx y hy hxy
      · rw [List.mem_singleton.1 hy] at hxy ⊢
        rw [near_symm] at hxy
        exact not_bars hg hb x hx hxy
      · rw [List.mem_singleton.1 hx] at hxy ⊢
        exact (not_bars hg hb y hy hxy).symm
      · rw [List.mem_singleton.1 hx, List.mem_singleton.1 hy]
    · rcases List.mem_append.1 hx with hx | hx
      · exact h.rng x hx
      · rw [List.mem_singleton.1 hx]
        exact hw
theorem Fine.adds {who : Int} (hw : -9223372036854775808 ≤ who ∧ who ≤ 9223372036854775807) : ∀ {ps : List ByteArray} {m : Nat} {s : St}, Fine m s → (∀ p ∈ ps, Lk.good p = true) → (∀ p ∈ ps, blocks s who p = false) → Fine (m + ps.length) (adds who s ps)
  | [], m, s, h, _, _ => h
  | p :: ps, m, s, h, hg, hb => by
    have h1 := h.add hw (hg p (by simp)) (hb p (by simp))
    have h2 := Fine.adds hw (ps := ps) h1 (fun q hq => hg q (by simp [hq])) (fun q hq => by rw [blocks_add]; exact hb q (by simp [hq]))
    have e : m + 1 + ps.length = m + (p :: ps).length := by rw [List.length_cons]; omega
    rw [← e]
    exact h2
theorem adds_old {who : Int} {q : ByteArray} {a : Int} : ∀ {ps : List ByteArray} {s : St}, held s q = some a → held (adds who s ps) q = some a
  | [], _, h => h
  | _ :: ps, _, h => adds_old (ps := ps) (held_add_old h)
theorem adds_all {who : Int} : ∀ {ps : List ByteArray} {s : St}, (∀ p ∈ ps, good p = true) → (∀ p ∈ ps, blocks s who p = false) → ∀ p ∈ ps, held (adds who s ps) p = some who
  | [], _, _, _, _, hp => by cases hp
  | q :: ps, s, hg, hb, p, hp => by
    rcases List.mem_cons.1 hp with rfl | hp
    · exact adds_old (ps := ps) (s := add who s p) (held_add_new (hg p (by simp)) (hb p (by simp)))
    · exact adds_all (ps := ps) (fun x hx => hg x (by simp [hx])) (fun x hx => by rw [blocks_add]; exact hb x (by simp [hx])) p hp
theorem faulty_none {s : St} {who : Int} {ps : List ByteArray} (h : faulty s who ps = none) : (∀ p ∈ ps, good p = true) ∧ ∀ p ∈ ps, blocks s who p = false := by
  unfold faulty at h
  split at h
  · cases h
  · rename_i e
    exact ⟨fun p hp => by simpa using List.find?_eq_none.1 e p hp, fun p hp => by simpa using List.find?_eq_none.1 h p hp⟩
theorem faulty_ok {s : St} {who : Int} {ps : List ByteArray} (hg : ∀ p ∈ ps, good p = true) (hb : ∀ p ∈ ps, blocks s who p = false) : faulty s who ps = none := by
  unfold faulty
  have e : ps.find? (fun p => !good p) = none := List.find?_eq_none.2 fun p hp => by simp [hg p hp]
  rw [e]
  exact List.find?_eq_none.2 fun p hp => by simp [hb p hp]
theorem take_no {s : St} {who : Int} {ps : List ByteArray} {p : ByteArray} (h : faulty s who ps = some p) : take s who ps = (p, false, s) := by unfold take; rw [h]
theorem take_yes {s : St} {who : Int} {ps : List ByteArray} (h : faulty s who ps = none) : take s who ps = (⟨#[]⟩, true, adds who s ps) := by unfold take; rw [h]
theorem adds_ext (who : Int) : ∀ (ps : List ByteArray) (s : St), ∃ t, adds who s ps = s ++ t ∧ ∀ x ∈ t, x.who = who ∧ x.path ∈ ps
  | [], s => ⟨[], by simp [adds], fun _ h => by cases h⟩
  | p :: ps, s => by
    obtain ⟨t, h1, h2⟩ := adds_ext who ps (add who s p)
    have e : adds who s (p :: ps) = adds who (add who s p) ps := rfl
    rw [e, h1]
    unfold add
    split
    · exact ⟨t, rfl, fun x hx => ⟨(h2 x hx).1, List.mem_cons_of_mem _ (h2 x hx).2⟩⟩
    · refine ⟨⟨p, who⟩ :: t, by simp, fun x hx => ?_⟩
      rcases List.mem_cons.1 hx with rfl | hx
      · exact ⟨rfl, by simp⟩
      · exact ⟨(h2 x hx).1, List.mem_cons_of_mem _ (h2 x hx).2⟩
/-! Free. -/
theorem mem_rest {s : St} {who : Int} {x : Hd} (h : x ∈ rest s who) : x ∈ s := (List.mem_filter.1 h).1
theorem Fine.rest {m : Nat} {s : St} (h : Fine m s) (who : Int) : Fine m (rest s who) :=
  ⟨fun x hx => h.good x (mem_rest hx), h.uniq.filter _, fun x hx y hy => h.apart x (mem_rest hx) y (mem_rest hy), fun x hx => h.rng x (mem_rest hx), Nat.le_trans (List.length_filter_le _ _) h.len⟩
/-! Of unlike first names. -/
end Go.Proofs.YtboejbjobjhajaaGreatDoor.Lk
namespace Go.Proofs.YtboejbjobjhajaaGreatDoor.Lk
open Go
def isKid (p : ByteArray) (x : Hd) : Bool := under x.path && decide (up x.path = p)
def isMine (p : ByteArray) (who : Int) (x : Hd) : Bool := isKid p x && decide (x.who = who)
def kids (s : St) (p : ByteArray) : Nat := s.countP (isKid p)
def mine (s : St) (p : ByteArray) (who : Int) : Nat := s.countP (isMine p who)
def own (s : St) (who : Int) : List ByteArray := (s.filter fun x => decide (x.who = who)).map Hd.path
def others (s : St) (who : Int) (p : ByteArray) : Bool := match held s p with
  | some a => decide (a ≠ who)
  | none => false
theorem countP_split {α : Type} (p q : α → Bool) : ∀ l : List α, l.countP p = l.countP (fun x => p x && q x) + l.countP (fun x => p x && !q x)
  | [] => rfl
  | a :: l => by
    have ih := countP_split p q l
    rw [List.countP_cons, List.countP_cons, List.countP_cons]
    cases p a <;> cases q a <;> simp <;> omega
theorem kids_mine (s : St) (p : ByteArray) (who : Int) : kids s p = mine s p who + s.countP (fun x => isKid p x && !decide (x.who = who)) := countP_split _ _ s
theorem mine_le (s : St) (p : ByteArray) (who : Int) : mine s p who ≤ kids s p := by have := kids_mine s p who; omega
theorem kids_le (s : St) (p : ByteArray) : kids s p ≤ s.length := List.countP_le_length
theorem lt_any (s : St) (p : ByteArray) (who : Int) : decide (mine s p who < kids s p) = s.any (fun x => decide (x.who ≠ who) && isKid p x) := by
  have h := kids_mine s p who
  cases e : s.any (fun x => decide (x.who ≠ who) && isKid p x) with
  | true =>
    rw [List.any_eq_true] at e
    obtain ⟨x, hx, hp⟩ := e
    have h1 : 0 < s.countP (fun x => isKid p x && !decide (x.who = who)) := List.countP_pos_iff.2 ⟨x, hx, by simp only [Bool.and_eq_true, decide_eq_true_eq, Bool.not_eq_true', decide_eq_false_iff_not, ne_eq] at hp ⊢; exact ⟨hp.2, hp.1⟩⟩
    exact decide_eq_true (by omega)
  | false =>
    rw [List.any_eq_false] at e
    have h1 : s.countP (fun x => isKid p x && !decide (x.who = who)) = 0 := List.countP_eq_zero.2 fun x hx => by
      have := e x hx
      simp only [Bool.and_eq_true, decide_eq_true_eq, Bool.not_eq_true', decide_eq_false_iff_not, ne_eq] at this ⊢
      exact fun h2 => this ⟨h2.2, h2.1⟩
    exact decide_eq_false (by omega)
theorem others_any {m : Nat} {s : St} (h : Fine m s) (who : Int) (p : ByteArray) : others s who p = s.any (fun x => decide (x.who ≠ who) && decide (x.path = p)) := by
  unfold others
  cases e : held s p with
  | none =>
    symm
    rw [List.any_eq_false]
    intro x hx
    have := held_none.1 e x hx
    simp [this]
  | some a =>
    obtain ⟨x, hx, hp, ha⟩ := held_some e
    simp only []
    by_cases hw : a = who
    · rw [decide_eq_false (by simpa using hw)]
      symm
      rw [List.any_eq_false]
      intro y hy
      by_cases hy2 : y.path = p
      · have h1 := uniq_eq h.uniq hy hx (by rw [hy2, hp])
        rw [h1, ha]
        simp [hw]
      · simp [hy2]
    · rw [decide_eq_true (by simpa using hw)]
      symm
      rw [List.any_eq_true]
      exact ⟨x, hx, by simp [hp, ha, hw]⟩
theorem any_or {α : Type} (p q : α → Bool) : ∀ l : List α, l.any (fun x => p x || q x) = (l.any p || l.any q)
  | [] => rfl
  | a :: l => by
    rw [List.any_cons, List.any_cons, List.any_cons, any_or p q l]
    cases p a <;> cases q a <;> cases l.any p <;> cases l.any q <;> rfl
def upN (p : ByteArray) : ByteArray := if under p = true then up p else ⟨#[]⟩
theorem not_good_nil : good ⟨#[]⟩ = false := by
  unfold good
  decide
theorem others_nil {m : Nat} {s : St} (h : Fine m s) (who : Int) : others s who ⟨#[]⟩ = false := by
  unfold others
  cases e : held s ⟨#[]⟩ with
  | none => rfl
  | some a =>
    have := held_good h e
    rw [not_good_nil] at this
    cases this
theorem blocks_counts {m : Nat} {s : St} (h : Fine m s) (who : Int) (p : ByteArray) : blocks s who p = (good p && (others s who p || others s who (upN p) || decide (mine s p who < kids s p))) := by
  unfold blocks
  congr 1
  have e1 : (s.any (bars who p)) = s.any (fun x => ((decide (x.who ≠ who) && decide (x.path = p)) || (decide (x.who ≠ who) && (under p && decide (x.path = up p)))) || (decide (x.who ≠ who) && isKid p x)) := by
    congr 1
    funext x
    unfold bars near isKid
    have e : decide (x.path = p) = decide (x.path = p) := rfl
    cases decide (x.who ≠ who) <;> cases decide (x.path = p) <;> cases under p <;> cases decide (x.path = up p) <;> cases under x.path <;> cases decide (up x.path = p) <;> rfl
  rw [e1, any_or, any_or, ← others_any h, lt_any]
  congr 2
  unfold upN
  cases hu : under p with
  | false =>
    rw [if_neg (by simp), others_nil h]
    simp
  | true =>
    rw [if_pos rfl, others_any h]
    congr 1
/-! What comes, and what goes. -/
theorem kids_snoc (s : St) (x : Hd) (p : ByteArray) : kids (s ++ [x]) p = kids s p + (if isKid p x = true then 1 else 0) := by
  unfold kids
  rw [List.countP_append, List.countP_singleton]
theorem mine_snoc (s : St) (x : Hd) (p : ByteArray) (who : Int) : mine (s ++ [x]) p who = mine s p who + (if isMine p who x = true then 1 else 0) := by
  unfold mine
  rw [List.countP_append, List.countP_singleton]
theorem own_snoc (s : St) (x : Hd) (who : Int) : own (s ++ [x]) who = own s who ++ (if x.who = who then [x.path] else []) := by
  unfold own
  rw [List.filter_append, List.map_append]
  congr 1
  by_cases h : x.who = who
  · rw [if_pos h, List.filter_cons_of_pos (by simpa using h)]
    rfl
  · rw [if_neg h, List.filter_cons_of_neg (by simpa using h)]
    rfl
def less (s : St) (p : ByteArray) : St := s.filter fun x => decide (x.path ≠ p)
theorem mem_less {s : St} {p : ByteArray} {x : Hd} : x ∈ less s p ↔ x ∈ s ∧ x.path ≠ p := by unfold less; simp
theorem less_split {s : St} (h : s.Pairwise fun x y => x.path ≠ y.path) {x : Hd} (hx : x ∈ s) : ∃ a b, s = a ++ x :: b ∧ less s x.path = a ++ b := by
  obtain ⟨a, b, rfl⟩ := List.append_of_mem hx
  refine ⟨a, b, rfl, ?_⟩
  unfold less
  rw [List.filter_append, List.filter_cons_of_neg (by simp)]
  rw [List.pairwise_append, List.pairwise_cons] at h
  congr 1
  · rw [List.filter_eq_self]
    intro y hy
    simpa using h.2.2 y hy x (by simp)
  · rw [List.filter_eq_self]
    intro y hy
    simpa using (h.2.1.1 y hy).symm
theorem kids_less {s : St} (h : s.Pairwise fun x y => x.path ≠ y.path) {x : Hd} (hx : x ∈ s) (p : ByteArray) : kids s p = kids (less s x.path) p + (if isKid p x = true then 1 else 0) := by
  obtain ⟨a, b, e1, e2⟩ := less_split h hx
  rw [e2, e1]
  unfold kids
  rw [List.countP_append, List.countP_append, List.countP_cons]
  omega
theorem mine_less {s : St} (h : s.Pairwise fun x y => x.path ≠ y.path) {x : Hd} (hx : x ∈ s) (p : ByteArray) (who : Int) : mine s p who = mine (less s x.path) p who + (if isMine p who x = true then 1 else 0) := by
  obtain ⟨a, b, e1, e2⟩ := less_split h hx
  rw [e2, e1]
  unfold mine
  rw [List.countP_append, List.countP_append, List.countP_cons]
  omega
theorem held_less {s : St} (p q : ByteArray) : held (less s p) q = if q = p then none else held s q := by
  by_cases e : q = p
  · rw [if_pos e]
    exact held_none.2 fun x hx => by rw [e]; exact (mem_less.1 hx).2
  · rw [if_neg e]
    unfold held less
    rw [List.find?_filter]
    congr 1
    congr 1
    funext x
    by_cases h : x.path = q
    · simp [h, e]
    · simp [h]
theorem Fine.less {m : Nat} {s : St} (h : Fine m s) (p : ByteArray) : Fine m (less s p) :=
  ⟨fun x hx => h.good x (mem_less.1 hx).1, h.uniq.filter _, fun x hx y hy => h.apart x (mem_less.1 hx).1 y (mem_less.1 hy).1, fun x hx => h.rng x (mem_less.1 hx).1, Nat.le_trans (List.length_filter_le _ _) h.len⟩
def lesses (s : St) (ps : List ByteArray) : St := ps.foldl less s
theorem lesses_snoc (s : St) (ps : List ByteArray) (p : ByteArray) : lesses s (ps ++ [p]) = less (lesses s ps) p := by unfold lesses; rw [List.foldl_append]; rfl
theorem lesses_eq : ∀ (ps : List ByteArray) (s : St), lesses s ps = s.filter fun x => ps.all fun p => decide (x.path ≠ p)
  | [], s => by unfold lesses; exact (List.filter_eq_self.2 fun _ _ => rfl).symm
  | p :: ps, s => by
    have h : lesses s (p :: ps) = lesses (less s p) ps := rfl
    rw [h, lesses_eq ps]
    unfold less
    rw [List.filter_filter]
    congr 1
    funext x
    rw [List.all_cons, Bool.and_comm]
theorem mem_own {s : St} {who : Int} {p : ByteArray} : p ∈ own s who ↔ ∃ x ∈ s, x.path = p ∧ x.who = who := by
  unfold own
  simp only [List.mem_map, List.mem_filter, decide_eq_true_eq]
  constructor
  · rintro ⟨x, ⟨h1, h2⟩, h3⟩
    exact ⟨x, h1, h3, h2⟩
  · rintro ⟨x, h1, h2, h3⟩
    exact ⟨x, ⟨h1, h3⟩, h2⟩
theorem lesses_own {m : Nat} {s : St} (h : Fine m s) (who : Int) : lesses s (own s who) = rest s who := by
  rw [lesses_eq]
  unfold rest
  refine List.filter_congr fun x hx => ?_
  by_cases e : x.who = who
  · rw [decide_eq_false (by simpa using e), List.all_eq_false]
    exact ⟨x.path, mem_own.2 ⟨x, hx, rfl, e⟩, by simp⟩
  · rw [decide_eq_true (by simpa using e), List.all_eq_true]
    intro p hp
    obtain ⟨y, hy, h1, h2⟩ := mem_own.1 hp
    refine decide_eq_true fun h3 => ?_
    rw [← uniq_eq h.uniq hy hx (by rw [h1, h3])] at e
    exact e h2
theorem own_nodup {m : Nat} {s : St} (h : Fine m s) (who : Int) : (own s who).Nodup := by
  unfold own List.Nodup
  rw [List.pairwise_map]
  exact h.uniq.filter _
theorem own_len (s : St) (who : Int) : ((own s who).length : Int) = free s who := by
  unfold own free rest
  rw [List.length_map]
  have h : ∀ l : St, (l.filter fun x => decide (x.who = who)).length + (l.filter fun x => decide (x.who ≠ who)).length = l.length := by
    intro l
    induction l with
    | nil => rfl
    | cons a l ih =>
      by_cases e : a.who = who
      · rw [List.filter_cons_of_pos (by simpa using e), List.filter_cons_of_neg (by simpa using e), List.length_cons, List.length_cons]
        omega
      · rw [List.filter_cons_of_neg (by simpa using e), List.filter_cons_of_pos (by simpa using e), List.length_cons, List.length_cons]
        omega
  have := h s
  omega
theorem own_rest (s : St) (who a : Int) : own (rest s who) a = if a = who then [] else own s a := by
  unfold own rest
  rw [List.filter_filter]
  by_cases e : a = who
  · rw [if_pos e]
    rw [show (s.filter fun x => decide (x.who = a) && decide (x.who ≠ who)) = [] from List.filter_eq_nil_iff.2 fun x _ => by simp [e]]
    rfl
  · rw [if_neg e]
    congr 1
    refine List.filter_congr fun x _ => ?_
    by_cases h : x.who = a
    · simp [h, e]
    · simp [h]
theorem own_le (s : St) (who : Int) : (own s who).length ≤ s.length := by unfold own; rw [List.length_map]; exact List.length_filter_le _ _
end Go.Proofs.YtboejbjobjhajaaGreatDoor.Lk
namespace Go.Proofs.YtboejbjobjhajaaGreatDoor
open Go.RowKit
abbrev Rep17 := World → Nat → Lk.St → (Nat → Prop) → Prop
def I64 (z : Int) : Prop := -9223372036854775808 ≤ z ∧ z ≤ 9223372036854775807
theorem Pa.Std.low17 {w w' : World} (h : Pa.Std w) (hb : Below 6 w w') : Pa.Std w' := by
  obtain ⟨m, hm⟩ := h.len
  have hs := h.size
  have hs' := hb.size
  exact ⟨⟨m, by rw [hb.cell (p := ⟨0, 0, none⟩) (by simp only []; omega)]; exact hm⟩, by omega, var?_below hb Pa.gTab (by omega) h.tab⟩
theorem Pa.Std.moved17 {w w' : World} {F F' : Nat → Prop} (h : Pa.Std w) (hm : Moved w w' F F') (hF : ∀ k, F k → 6 ≤ k) : Pa.Std w' := h.low17 (hm.below h.size hF)
structure Specs17 (LS : Rep17) : Prop where
  lt : ∀ {w q s F k}, LS w q s F → F k → k < w.heap.size
  keep : ∀ {w w' : World} {q s F}, LS w q s F → (∀ k, F k → w'.heap[k]? = w.heap[k]?) → LS w' q s F
  new : ∀ (w : World), Calls Tryz.prog 43 #[] w fun e w' => ∃ q F, e = .returned (dptr q) ∧ LS w' q [] F ∧ (∀ k, F k → w.heap.size ≤ k) ∧ Below w.heap.size w w'
  take : ∀ (q : Nat) (s : Lk.St) (F : Nat → Prop) (m : Nat) (who : Int) (v : Value) (ps : List ByteArray) (w : World), LS w q s F → Lk.Fine m s → m ≤ 1000000 → (∀ k, F k → 6 ≤ k) → Pa.Std w → I64 who → Ss w v ps → ps.length ≤ 1000 → (∀ p ∈ ps, p.size ≤ maxLen) → (∀ k, v.ownBlock = some k → ps ≠ [] → ¬ F k) →
    Calls Tryz.prog 49 #[dptr q, .int .i64 who, v] w fun e w' => ∃ F', e = .returned (.tuple #[.string (Lk.take s who ps).1, .bool (Lk.take s who ps).2.1]) ∧ LS w' q (Lk.take s who ps).2.2 F' ∧ Moved w w' F F'
  free : ∀ (q : Nat) (s : Lk.St) (F : Nat → Prop) (m : Nat) (who : Int) (w : World), LS w q s F → Lk.Fine m s → m ≤ 1000000 → (∀ k, F k → 6 ≤ k) → Pa.Std w → I64 who →
    Calls Tryz.prog 53 #[dptr q, .int .i64 who] w fun e w' => ∃ F', e = .returned (.int .i64 (Lk.free s who)) ∧ LS w' q (Lk.rest s who) F' ∧ Moved w w' F F'
  blocks : ∀ (q : Nat) (s : Lk.St) (F : Nat → Prop) (m : Nat) (who : Int) (p : ByteArray) (w : World), LS w q s F → Lk.Fine m s → m ≤ 1000000 → Pa.Std w → I64 who → p.size ≤ maxLen →
    Calls Tryz.prog 101 #[dptr q, .int .i64 who, .string p] w fun e w' => e = .returned (.bool (Lk.blocks s who p)) ∧ Below w.heap.size w w'
  len : ∀ (q : Nat) (s : Lk.St) (F : Nat → Prop) (m : Nat) (w : World), LS w q s F → Lk.Fine m s → m ≤ 1000000 →
    Calls Tryz.prog 52 #[dptr q] w fun e w' => e = .returned (.int .i64 (s.length : Int)) ∧ Below w.heap.size w w'
section
variable {LS : Rep17} {W w w' : World} {q : Nat} {m m' : Nat} {s s' : Lk.St} {F F' : Nat → Prop}
end
end Go.Proofs.YtboejbjobjhajaaGreatDoor
namespace Go.Proofs.YtboejbjobjhajaaGreatDoor
open Go.RowKit Go.ChangeMaps Go.MapKept
def anyElem (v : Value) : Option (DataW Value × List MemPlace) := some (.held v, [])
def Mq (w : World) (k : TypeId) (b : Nat) (f : Lit → Option Value) : Prop :=
  ∃ n D, w.ownsMap Tryz.prog k anyElem b n D ∧ (∀ kl, Maps.has D kl = (f kl).isSome) ∧ ∀ kl v, f kl = some v → ∀ z, D.atKey kl z = .held v
structure Up (f : Lit → Option Value) (kl : Lit) (o : Option Value) (g : Lit → Option Value) : Prop where
  same : g kl = o
  other : ∀ x, x ≠ kl → g x = f x
theorem Up.some_is (f : Lit → Option Value) (kl : Lit) (o : Option Value) : ∃ g, Up f kl o g := by
  classical
  exact ⟨fun x => if x = kl then o else f x, by simp, fun x h => by simp [h]⟩
theorem Up.over {f g g' : Lit → Option Value} {kl : Lit} {o o' : Option Value} (h : Up f kl o g) (h' : Up g kl o' g') : Up f kl o' g' := ⟨h'.same, fun x e => (h'.other x e).trans (h.other x e)⟩
def Few (f : Lit → Option Value) (N : Nat) : Prop := ∃ L : List Lit, L.length ≤ N ∧ ∀ kl, (f kl).isSome = true → kl ∈ L
theorem Few.mono {f : Lit → Option Value} {N M : Nat} (h : Few f N) (hm : N ≤ M) : Few f M := by
  obtain ⟨L, h1, h2⟩ := h
  exact ⟨L, Nat.le_trans h1 hm, h2⟩
theorem few_of {α : Type} {f : Lit → Option Value} (l : List α) (g : α → Lit) (h : ∀ kl, (f kl).isSome = true → ∃ x ∈ l, g x = kl) : Few f l.length :=
  ⟨l.map g, by rw [List.length_map]; exact Nat.le_refl _, fun kl hk => by
    obtain ⟨x, hx, e⟩ := h kl hk
    exact List.mem_map.2 ⟨x, hx, e⟩⟩
theorem len_nodup {α : Type} : ∀ (l m : List α), l.Nodup → (∀ x ∈ l, x ∈ m) → l.length ≤ m.length
  | [], _, _, _ => Nat.zero_le _
  | a :: l, m, hn, hm => by
    classical
    obtain ⟨h1, h2⟩ := List.nodup_cons.1 hn
    have ha := hm a (by simp)
    have ih := len_nodup l (m.erase a) h2 (fun x hx => (List.mem_erase_of_ne (fun e : x = a => h1 (by rw [← e]; exact hx))).2 (hm x (by simp [hx])))
    have hl := List.length_erase_of_mem ha
    have hp := List.length_pos_of_mem ha
    rw [List.length_cons]
    omega
section
variable {w w' : World} {k : TypeId} {b N : Nat} {f g : Lit → Option Value}
theorem Mq.lt (h : Mq w k b f) : b < w.heap.size := by
  obtain ⟨n, D, h, _⟩ := h
  exact h.lt
theorem Mq.block (h : Mq w k b f) : ∃ es clock, w.heap[b]? = some (.map es clock) := by
  obtain ⟨n, D, ⟨es, clock, h, _⟩, _⟩ := h
  exact ⟨es, clock, h⟩
theorem Mq.keep (h : Mq w k b f) (hb : w'.heap[b]? = w.heap[b]?) : Mq w' k b f := by
  obtain ⟨n, D, ⟨es, clock, h, r⟩, h2⟩ := h
  exact ⟨n, D, ⟨es, clock, hb.trans h, r⟩, h2⟩
theorem Mq.made (w : World) (k : TypeId) : Mq (w.alloc (.map #[] 0)) k w.heap.size fun _ => none :=
  ⟨0, .map [], w.ownsMap_made Tryz.prog k anyElem, fun _ => rfl, fun _ _ h => by cases h⟩
theorem Mq.ne {p : Nat} {cs : List Value} {t : TypeId} (h : Mq w k b f) (hp : Cb w p cs t) : b ≠ p := fun e => by
  obtain ⟨es, clock, h1⟩ := h.block
  unfold Cb at hp
  rw [← e, h1] at hp
  cases hp
theorem Mq.ne_row {B t n s : Nat} {v : Value} {us : List Value} (h : Mq w k b f) (hv : w.ownsRow B t s v n us) : v.ownBlock ≠ some b := fun e => by
  obtain ⟨es, clock, h1⟩ := h.block
  obtain ⟨cur, h2⟩ := row_in hv e
  rw [h1] at h2
  cases h2
theorem Mq.few (h : Mq w k b f) (K : Maps.Keyed Tryz.prog k) (hf : Few f N) : ∃ D, w.ownsMap Tryz.prog k anyElem b N D ∧ (∀ kl, Maps.has D kl = (f kl).isSome) ∧ ∀ kl v, f kl = some v → ∀ z, D.atKey kl z = .held v := by
  obtain ⟨n, D, h, hh, ha⟩ := h
  obtain ⟨L, hL, hin⟩ := hf
  refine ⟨D, ?_, hh, ha⟩
  obtain ⟨M, e, hp, hk⟩ := h.canon K
  obtain ⟨es, clock, hb, F, hs, hd⟩ := h
  refine ⟨es, clock, hb, F, ?_, hd⟩
  have h1 : M.length = es.size := by
    rw [e] at hd
    simp only [DataW.map.injEq] at hd
    rw [hd, length_sorted]
    simp
  have h2 : (M.map (·.1)).Nodup := by
    unfold List.Nodup
    rw [List.pairwise_map]
    exact Maps.apart_of_rising hp
  have h3 := len_nodup (M.map (·.1)) L h2 (fun kl hkl => by
    obtain ⟨p, hpm, rfl⟩ := List.mem_map.1 hkl
    refine hin _ ?_
    rw [← hh, e, Maps.has_eq, List.any_eq_true]
    exact ⟨p, hpm, WideAt.sameKey_self (hk p hpm)⟩)
  rw [List.length_map] at h3
  omega
theorem Mq.look_ok (h : Mq w k b f) (K : Maps.Keyed Tryz.prog k) {t e : TypeId} (ht : Tryz.prog.underlying t = some (.map k e)) {z : Value} (hz : (zeroValue e).run Tryz.prog w = .ok z w) {key : Value} {kl : Lit} (hkey : keyOf Tryz.prog k key = some kl) :
    (Instr.lookup t (.map (some b)) key true).run Tryz.prog w = .ok (.tuple #[(f kl).getD z, .bool (f kl).isSome]) w := by
  obtain ⟨n, D, h, hh, ha⟩ := h
  obtain ⟨v, ps, hr, hv⟩ := h.look_ok K ht hz (zd := .held z) (zp := []) rfl hkey
  rw [hr, hh]
  unfold anyElem at hv
  simp only [Option.some.injEq, Prod.mk.injEq] at hv
  cases e : f kl with
  | none =>
    rw [Maps.atKey_of_not_has (by rw [hh, e]; rfl)] at hv
    simp only [DataW.held.injEq] at hv
    rw [hv.1]
    rfl
  | some u =>
    rw [ha kl u e] at hv
    simp only [DataW.held.injEq] at hv
    rw [hv.1]
    rfl
theorem Mq.look (h : Mq w k b f) (K : Maps.Keyed Tryz.prog k) {t e : TypeId} (ht : Tryz.prog.underlying t = some (.map k e)) {z : Value} (hz : (zeroValue e).run Tryz.prog w = .ok z w) {key : Value} {kl : Lit} (hkey : keyOf Tryz.prog k key = some kl) :
    (Instr.lookup t (.map (some b)) key false).run Tryz.prog w = .ok ((f kl).getD z) w := by
  obtain ⟨n, D, h, hh, ha⟩ := h
  obtain ⟨v, ps, hr, hv⟩ := h.lookup K ht hz (zd := .held z) (zp := []) rfl hkey
  rw [hr]
  unfold anyElem at hv
  simp only [Option.some.injEq, Prod.mk.injEq] at hv
  cases e : f kl with
  | none =>
    rw [Maps.atKey_of_not_has (by rw [hh, e]; rfl)] at hv
    simp only [DataW.held.injEq] at hv
    rw [hv.1]
    rfl
  | some u =>
    rw [ha kl u e] at hv
    simp only [DataW.held.injEq] at hv
    rw [hv.1]
    rfl
theorem Mq.store (h : Mq w k b f) (K : Maps.Keyed Tryz.prog k) {t e : TypeId} (ht : Tryz.prog.underlying t = some (.map k e)) (hf : Few f N) (hN : N < maxLen) {key : Value} {kl : Lit} (hkey : keyOf Tryz.prog k key = some kl) (val : Value) (hg : Up f kl (some val) g) :
    ∃ w', (Instr.mapUpdate t (.map (some b)) key val).run Tryz.prog w = .ok () w' ∧ Mq w' k b g ∧ w.mapTurned w' b := by
  obtain ⟨D, h, hh, ha⟩ := h.few K hf
  obtain ⟨w', hr, ho, htn⟩ := h.store K ht hN hkey (val := val) (d := .held val) (ps := []) rfl
  refine ⟨w', hr, ⟨N + 1, _, ho, fun x => ?_, fun x v hx z => ?_⟩, htn⟩
  · by_cases e : x = kl
    · rw [e, hg.same, Maps.has_put_same h.isMap (K.key hkey)]
      rfl
    · rw [hg.other x e, Maps.has_put_other e, hh]
  · by_cases e : x = kl
    · rw [e, hg.same] at hx
      rw [e, Maps.atKey_put_same h.isMap (K.key hkey), Option.some.inj hx]
    · rw [hg.other x e] at hx
      rw [Maps.atKey_put_other e]
      exact ha x v hx z
theorem Mq.drop (h : Mq w k b f) (K : Maps.Keyed Tryz.prog k) {t e : TypeId} (ht : Tryz.prog.underlying t = some (.map k e)) {key : Value} {kl : Lit} (hkey : keyOf Tryz.prog k key = some kl) (ty : TypeId) (hg : Up f kl none g) :
    ∃ w', (Builtin.delete_ #[t, k] ty #[.map (some b), key]).run Tryz.prog w = .ok (.tuple #[]) w' ∧ Mq w' k b g ∧ w.mapTurned w' b := by
  obtain ⟨n, D, h, hh, ha⟩ := h
  obtain ⟨w', hr, ho, htn⟩ := h.drop K ht hkey ty
  refine ⟨w', hr, ⟨n, _, ho, fun x => ?_, fun x v hx z => ?_⟩, htn⟩
  · by_cases e : x = kl
    · rw [e, hg.same, Maps.has_del_same]
      rfl
    · rw [hg.other x e, Maps.has_del_other e, hh]
  · by_cases e : x = kl
    · rw [e, hg.same] at hx
      cases hx
    · rw [hg.other x e] at hx
      rw [Maps.atKey_del_other e]
      exact ha x v hx z
theorem Mq.len (h : Mq w k b f) (K : Maps.Keyed Tryz.prog k) {t e : TypeId} (ht : Tryz.prog.underlying t = some (.map k e)) (L : List Lit) (hn : L.Nodup) (hL : ∀ kl, (f kl).isSome = true ↔ kl ∈ L) (ty : TypeId) :
    (Builtin.len_ #[t] ty #[.map (some b)]).run Tryz.prog w = .ok (.int .i64 (L.length : Int)) w := by
  obtain ⟨D, h, hh, ha⟩ := h.few K (N := L.length) ⟨L, Nat.le_refl _, fun kl => (hL kl).1⟩
  rw [h.len ht ty]
  have h1 : Maps.size D ≤ L.length := h.size_le
  have h2 : L.length ≤ Maps.size D := by
    obtain ⟨M, e, hp, hk⟩ := h.canon K
    have h3 := len_nodup L (M.map (·.1)) hn (fun kl hkl => by
      have h4 := (hL kl).2 hkl
      rw [← hh, e, Maps.has_eq, List.any_eq_true] at h4
      obtain ⟨p, hpm, hs⟩ := h4
      refine List.mem_map.2 ⟨p, hpm, ?_⟩
      apply Classical.byContradiction
      intro hne
      rw [Maps.sameKey_ne hne] at hs
      cases hs)
    rw [List.length_map] at h3
    rw [e, Maps.size_eq]
    exact h3
  rw [Nat.le_antisymm h1 h2]
set_option maxRecDepth 20000 in
theorem entry_upd {R : Value → Option (DataW Value × List MemPlace)} {t e : TypeId} {es es1 : Array MapEntry} {clock clock1 st : Nat} {v0 : Value} (K : WideMaps.KeyLaw Tryz.prog k) (ht : Tryz.prog.underlying t = some (.map k e)) {z : Value} (hz : (zeroValue e).run Tryz.prog w = .ok z w) (hb : w.heap[b]? = some (.map es clock)) (F : WideElems.Fit Tryz.prog k R es clock) {key : Value} {kl : Lit} (hkey : keyOf Tryz.prog k key = some kl)
    (h : (Instr.mapEntry t (.map (some b)) key).run Tryz.prog w = .ok (.tuple #[v0, goInt st]) (setBlock w b (.map es1 clock1))) : (Instr.mapUpdate t (.map (some b)) key v0).run Tryz.prog w = .ok () (setBlock w b (.map es1 clock1)) ∧ (Instr.lookup t (.map (some b)) key false).run Tryz.prog w = .ok v0 w := by
  rcases K.find w hkey es.toList F.keys with ⟨h1, _⟩ | ⟨j, e0, h1, h2, h3⟩
  · simp [Instr.mapEntry, run_underlying ht, MapKept.run_getObj_map hb, K.check w false hkey, h1, hz, MapKept.run_setObj_map _ hb, Result.andThen] at h
    obtain ⟨⟨rfl, _⟩, hw⟩ := h
    simp [Instr.mapUpdate, Instr.lookup, run_underlying ht, MapKept.run_getObj_map hb, K.check w _ hkey, h1, hz, MapKept.run_setObj_map _ hb, Result.andThen]
    exact hw
  · have hj : es[j]? = some e0 := by simpa using h2
    simp [Instr.mapEntry, run_underlying ht, MapKept.run_getObj_map hb, K.check w false hkey, h1, hj, h3, K.stays w hkey, MapKept.run_setObj_map _ hb, Result.andThen] at h
    obtain ⟨⟨rfl, _⟩, hw⟩ := h
    simp [Instr.mapUpdate, Instr.lookup, run_underlying ht, MapKept.run_getObj_map hb, K.check w _ hkey, h1, hj, h3, K.stays w hkey, MapKept.run_setObj_map _ hb, Result.andThen]
    rw [← hw]
    congr 3
    apply Array.ext'
    rw [Array.toList_modify, Array.toList_modify]
    apply List.ext_getElem?
    intro i
    rw [List.getElem?_modify, List.getElem?_modify]
    by_cases hi : j = i
    · subst hi
      rw [h2]
      simp
    · simp [hi]
theorem upd_store {t e : TypeId} {X : World} (h : Mq w k b f) (K : Maps.Keyed Tryz.prog k) (ht : Tryz.prog.underlying t = some (.map k e)) (hf : Few f N) (hN : N < maxLen) {key : Value} {kl : Lit} (hkey : keyOf Tryz.prog k key = some kl) {val : Value} (hg : Up f kl (some val) g) (hr : (Instr.mapUpdate t (.map (some b)) key val).run Tryz.prog w = .ok () X) : Mq X k b g ∧ w.mapTurned X b := by
  obtain ⟨w', hr2, h1, h2⟩ := h.store K ht hf hN hkey val hg
  rw [hr] at hr2
  simp only [Result.ok.injEq, true_and] at hr2
  exact hr2 ▸ ⟨h1, h2⟩
theorem Mq.entry {t e : TypeId} (h : Mq w k b f) (KL : WideMaps.KeyLaw Tryz.prog k) (ht : Tryz.prog.underlying t = some (.map k e)) {z : Value} (hz : ∀ u : World, (zeroValue e).run Tryz.prog u = .ok z u) (hf : Few f N) (hN : N < maxLen) {key : Value} {kl : Lit} (hkey : keyOf Tryz.prog k key = some kl) :
    ∃ (st : Nat) (w1 : World) (f1 : Lit → Option Value), (Instr.mapEntry t (.map (some b)) key).run Tryz.prog w = .ok (.tuple #[(f kl).getD z, goInt st]) w1 ∧ Up f kl (some ((f kl).getD z)) f1 ∧ Mq w1 k b f1 ∧ w.mapTurned w1 b ∧
      ∀ (w2 : World) (val : Value) (g : Lit → Option Value), Up f kl (some val) g → w2.heap[b]? = w1.heap[b]? → ∃ w3, (Instr.entryStore t (.map (some b)) (goInt st) val).run Tryz.prog w2 = .ok () w3 ∧ Mq w3 k b g ∧ w2.mapTurned w3 b := by
  have K := Maps.Keyed.of_law KL
  have h0 := h
  obtain ⟨D, ⟨es, clock, hb, F, _, _⟩, _⟩ := h.few K hf
  obtain ⟨v0, st, es1, clock1, hr, _, hst⟩ := WideElems.entry_then_store KL ht hz hb F hkey
  obtain ⟨hu, hl⟩ := entry_upd KL ht (hz w) hb F hkey hr
  have hv : (f kl).getD z = v0 := by
    have h2 := h0.look K ht (hz w) hkey
    rw [hl] at h2
    simp only [Result.ok.injEq, and_true] at h2
    exact h2.symm
  rw [hv]
  obtain ⟨f1, hf1⟩ := Up.some_is f kl (some v0)
  obtain ⟨m1, m2⟩ := upd_store h0 K ht hf hN hkey hf1 hu
  have hbs : (setBlock w b (.map es1 clock1)).heap[b]? = some (.map es1 clock1) := heap_setBlock_same hb _
  refine ⟨st, _, f1, hr, hf1, m1, m2, fun w2 val g hg hw2 => ?_⟩
  rw [hbs] at hw2
  obtain ⟨es', clock', h3, h4⟩ := hst w2 val hw2
  obtain ⟨m3, _⟩ := upd_store h0 K ht hf hN hkey hg h4
  refine ⟨_, h3, m3.keep ?_, ⟨es1, clock1, es', clock', hw2, rfl⟩⟩
  rw [heap_setBlock_same hw2, heap_setBlock_same hb]
end
/-! At the operation. -/
section
variable {w : World} {ops : Array Oper} {rest : List Oper} {o : Oper} {a : Act} {Q : Exit → Act → World → Prop} {b N : Nat} {f g : Lit → Option Value}
theorem wpList_lookM (hg : o.guard = none) (m x : Operand) (t : TypeId) (hop : o.op = Op.lookup t m x false) (k e : TypeId) (K : Maps.Keyed Tryz.prog k) (ht : Tryz.prog.underlying t = some (.map k e)) (z : Value) (hz : (zeroValue e).run Tryz.prog w = .ok z w)
    (hm : a.eval m = .map (some b)) (h : Mq w k b f) (key : Value) (kl : Lit) (hx : a.eval x = key) (hkey : keyOf Tryz.prog k key = some kl) (val : Value) (hv : (f kl).getD z = val)
    (hK : wpList Tryz.prog ops Q rest (a.put o.dst val) w) : wpList Tryz.prog ops Q (o :: rest) a w := by
  refine wpList_plain hg fun K' hK' => ?_
  have hr := h.look K ht hz hkey
  rw [hv] at hr
  unfold Oper.wp
  simp [execOp, hop, hm, hx, hr, Result.andThen]
  exact hK' _ _ hK
theorem wpList_lookMok (hg : o.guard = none) (m x : Operand) (t : TypeId) (hop : o.op = Op.lookup t m x true) (k e : TypeId) (K : Maps.Keyed Tryz.prog k) (ht : Tryz.prog.underlying t = some (.map k e)) (z : Value) (hz : (zeroValue e).run Tryz.prog w = .ok z w)
    (hm : a.eval m = .map (some b)) (h : Mq w k b f) (key : Value) (kl : Lit) (hx : a.eval x = key) (hkey : keyOf Tryz.prog k key = some kl) (val : Value) (ok : Bool) (hv : (f kl).getD z = val) (hok : (f kl).isSome = ok)
    (hK : wpList Tryz.prog ops Q rest (a.put o.dst (.tuple #[val, .bool ok])) w) : wpList Tryz.prog ops Q (o :: rest) a w := by
  refine wpList_plain hg fun K' hK' => ?_
  have hr := h.look_ok K ht hz hkey
  rw [hv, hok] at hr
  unfold Oper.wp
  simp [execOp, hop, hm, hx, hr, Result.andThen]
  exact hK' _ _ hK
theorem wp_storeM {K' : Act → World → Prop} (m x v : Operand) (t : TypeId) (hop : o.op = Op.mapUpdate t m x v) (k e : TypeId) (K : Maps.Keyed Tryz.prog k) (ht : Tryz.prog.underlying t = some (.map k e))
    (hm : a.eval m = .map (some b)) (h : Mq w k b f) (hf : Few f N) (hN : N < maxLen) (key val : Value) (kl : Lit) (hx : a.eval x = key) (hv : a.eval v = val) (hkey : keyOf Tryz.prog k key = some kl) (hgu : Up f kl (some val) g)
    (hK : ∀ w', Mq w' k b g → w.mapTurned w' b → K' (a.put o.dst undef) w') : o.wp Tryz.prog a w K' Q := by
  obtain ⟨w', hr, r1, r2⟩ := h.store K ht hf hN hkey val hgu
  unfold Oper.wp
  simp [execOp, hop, hm, hx, hv, hr, Result.andThen]
  exact hK w' r1 r2
theorem wpList_storeM (hg : o.guard = none) (m x v : Operand) (t : TypeId) (hop : o.op = Op.mapUpdate t m x v) (k e : TypeId) (K : Maps.Keyed Tryz.prog k) (ht : Tryz.prog.underlying t = some (.map k e))
    (hm : a.eval m = .map (some b)) (h : Mq w k b f) (hf : Few f N) (hN : N < maxLen) (key val : Value) (kl : Lit) (hx : a.eval x = key) (hv : a.eval v = val) (hkey : keyOf Tryz.prog k key = some kl) (hgu : Up f kl (some val) g)
    (hK : ∀ w', Mq w' k b g → w.mapTurned w' b → wpList Tryz.prog ops Q rest (a.put o.dst undef) w') : wpList Tryz.prog ops Q (o :: rest) a w :=
  wpList_plain hg fun _ hK' => wp_storeM m x v t hop k e K ht hm h hf hN key val kl hx hv hkey hgu fun w' h1 h2 => hK' _ _ (hK w' h1 h2)
theorem wp_dropM {K' : Act → World → Prop} (m x : Operand) (t k : TypeId) (hop : o.op = Op.call { callee := Callee.builtin Builtin.delete, args := #[m, x], argTypes := #[t, k] }) (e : TypeId) (K : Maps.Keyed Tryz.prog k) (ht : Tryz.prog.underlying t = some (.map k e))
    (hm : a.eval m = .map (some b)) (h : Mq w k b f) (key : Value) (kl : Lit) (hx : a.eval x = key) (hkey : keyOf Tryz.prog k key = some kl) (hgu : Up f kl none g)
    (hK : ∀ w', Mq w' k b g → w.mapTurned w' b → K' (a.put o.dst (.tuple #[])) w') : o.wp Tryz.prog a w K' Q := by
  obtain ⟨w', hr, r1, r2⟩ := h.drop K ht hkey o.type hgu
  unfold Oper.wp
  simp [execOp, hop, resolve, invoke, builtin, hm, hx, hr, Result.andThen]
  exact hK w' r1 r2
theorem wpList_dropM (hg : o.guard = none) (m x : Operand) (t k : TypeId) (hop : o.op = Op.call { callee := Callee.builtin Builtin.delete, args := #[m, x], argTypes := #[t, k] }) (e : TypeId) (K : Maps.Keyed Tryz.prog k) (ht : Tryz.prog.underlying t = some (.map k e))
    (hm : a.eval m = .map (some b)) (h : Mq w k b f) (key : Value) (kl : Lit) (hx : a.eval x = key) (hkey : keyOf Tryz.prog k key = some kl) (hgu : Up f kl none g)
    (hK : ∀ w', Mq w' k b g → w.mapTurned w' b → wpList Tryz.prog ops Q rest (a.put o.dst (.tuple #[])) w') : wpList Tryz.prog ops Q (o :: rest) a w :=
  wpList_plain hg fun _ hK' => wp_dropM m x t k hop e K ht hm h key kl hx hkey hgu fun w' h1 h2 => hK' _ _ (hK w' h1 h2)
theorem wpList_lenM (hg : o.guard = none) (m : Operand) (t : TypeId) (hop : o.op = Op.call { callee := Callee.builtin Builtin.len, args := #[m], argTypes := #[t] }) (k e : TypeId) (K : Maps.Keyed Tryz.prog k) (ht : Tryz.prog.underlying t = some (.map k e))
    (hm : a.eval m = .map (some b)) (h : Mq w k b f) (L : List Lit) (hn : L.Nodup) (hL : ∀ kl, (f kl).isSome = true ↔ kl ∈ L)
    (hK : wpList Tryz.prog ops Q rest (a.put o.dst (.int .i64 (L.length : Int))) w) : wpList Tryz.prog ops Q (o :: rest) a w := by
  refine wpList_plain hg fun K' hK' => ?_
  unfold Oper.wp
  simp [execOp, hop, resolve, invoke, builtin, hm, h.len K ht L hn hL o.type, Result.andThen]
  exact hK' _ _ hK
end
end Go.Proofs.YtboejbjobjhajaaGreatDoor
namespace Go.Proofs.YtboejbjobjhajaaGreatDoor
open Go.RowKit
/-! Keys. -/
def pkey (s : ByteArray) : Lit := .string s.data.toList
def ikey (z : Int) : Lit := .int .i64 z
def shv (p : ByteArray) (z : Int) : Value := .agg #[.string p, .int .i64 z]
def skey (p : ByteArray) (z : Int) : Lit := .string (keyBytes [.string p.data.toList, .int .i64 z])
theorem pkey_inj {s t : ByteArray} (h : pkey s = pkey t) : s = t := by
  unfold pkey at h
  simp only [Lit.string.injEq] at h
  exact ByteArray.ext (Array.toList_inj.1 h)
theorem ikey_inj {s t : Int} (h : ikey s = ikey t) : s = t := by
  unfold ikey at h
  simp only [Lit.int.injEq, true_and] at h
  exact h
theorem keyedP : Maps.Keyed Tryz.prog 9 := Maps.string_keyed Tryz.underlying9
theorem keyedI : Maps.Keyed Tryz.prog 2 := Maps.int_keyed Tryz.underlying2
set_option maxRecDepth 100000 in
theorem laid17 : laidOutB Tryz.prog = true := by kernel_rfl
set_option maxRecDepth 100000 in
theorem rowS : (199 : TypeId) < Tryz.prog.types.size := of_decide_eq_true (by kernel_rfl)
set_option maxRecDepth 100000 in
theorem deepS : Tryz.prog.keyType 199 = true := by kernel_rfl
set_option maxRecDepth 100000 in
theorem wideS : (match Tryz.prog.underlying 199 with | some (.array _ _) | some (.struct _) => true | _ => false) = true := by kernel_rfl
set_option maxRecDepth 100000 in
theorem lawS : WideMaps.KeyLaw Tryz.prog 199 := deep_law_laid laid17 (m := 2) (by omega) rowS (by kernel_rfl) wideS
theorem keyedS : Maps.Keyed Tryz.prog 199 := Maps.Keyed.of_law lawS
theorem cellsS : Tryz.prog.cellsOf 199 = 2 := by kernel_rfl
theorem cellsT17 : Tryz.prog.cellsOf 9 = 1 := by kernel_rfl
theorem cellsI17 : Tryz.prog.cellsOf 2 = 1 := by kernel_rfl
theorem key_p {s : ByteArray} (hs : s.size ≤ maxLen) : keyOf Tryz.prog 9 (.string s) = some (pkey s) := Go.WideMaps.keyOf_string_mk Tryz.underlying9 hs
theorem wf17 {z : Int} (h : I64 z) : (Lit.int .i64 z).wf = true := by
  unfold I64 at h
  simp [Lit.wf, IntKind.min, IntKind.max, IntKind.bits, IntKind.signed]
  omega
theorem key_i {z : Int} (h : I64 z) : keyOf Tryz.prog 2 (.int .i64 z) = some (ikey z) := Maps.keyOf_int_mk Tryz.underlying2 (wf17 h)
set_option maxRecDepth 100000 in
theorem key_s {p : ByteArray} {z : Int} (hp : p.size ≤ maxLen) (h : I64 z) : keyOf Tryz.prog 199 (shv p z) = some (skey p z) := by
  obtain ⟨n, hn⟩ : ∃ n, Tryz.prog.types.size = n + 1 := ⟨_, (Nat.succ_pred_eq_of_pos (Nat.lt_of_le_of_lt (Nat.zero_le _) rowS)).symm⟩
  have h1 := wf17 h
  unfold keyOf
  rw [deepS, hn]
  simp [Program.keyLits, Tryz.underlying199, Tryz.underlying9, Tryz.underlying2, cellsS, cellsT17, cellsI17, Value.cells, Value.formed, shv, h1, hp, skey]
set_option maxRecDepth 100000 in
theorem skey_inj {p p' : ByteArray} {z z' : Int} (hp : p.size ≤ maxLen) (hz : I64 z) (hp' : p'.size ≤ maxLen) (hz' : I64 z') (h : skey p z = skey p' z') : p = p' ∧ z = z' := by
  have h1 := keyedS.inj (key_s hp hz) (h ▸ key_s hp' hz')
  unfold shv at h1
  simp at h1
  exact h1
/-! What the keys lead to. -/
def cnt (n : Nat) : Option Value := if n = 0 then none else some (.int .i64 (n : Int))
theorem cnt_getD (n : Nat) : (cnt n).getD (.int .i64 0) = .int .i64 (n : Int) := by
  unfold cnt
  split
  · rename_i h
    rw [h]
    rfl
  · rfl
theorem cnt_some {n : Nat} (h : n ≠ 0) : cnt n = some (.int .i64 (n : Int)) := by unfold cnt; rw [if_neg h]
theorem cnt_pos {n : Nat} (h : (cnt n).isSome = true) : 0 < n := by
  apply Nat.pos_of_ne_zero
  intro e
  rw [e] at h
  cases h
structure IsH (s : Lk.St) (f : Lit → Option Value) : Prop where
  at_ : ∀ p, f (pkey p) = (Lk.held s p).map (Value.int .i64)
  key : ∀ kl, (f kl).isSome = true → ∃ p, kl = pkey p
structure IsO (s : Lk.St) (V : Int → Value) (f : Lit → Option Value) : Prop where
  at_ : ∀ z, f (ikey z) = if Lk.own s z = [] then none else some (V z)
  key : ∀ kl, (f kl).isSome = true → ∃ z, kl = ikey z
structure IsU (s : Lk.St) (f : Lit → Option Value) : Prop where
  at_ : ∀ p, f (pkey p) = cnt (Lk.kids s p)
  key : ∀ kl, (f kl).isSome = true → ∃ p, kl = pkey p
structure IsS (s : Lk.St) (f : Lit → Option Value) : Prop where
  at_ : ∀ p z, p.size ≤ maxLen → I64 z → f (skey p z) = cnt (Lk.mine s p z)
  key : ∀ kl, (f kl).isSome = true → ∃ p z, p.size ≤ maxLen ∧ I64 z ∧ kl = skey p z
section
variable {s s' : Lk.St} {f g : Lit → Option Value} {V : Int → Value}
theorem IsH.few (h : IsH s f) : Few f s.length := few_of s (fun x => pkey x.path) fun kl hk => by
  obtain ⟨p, rfl⟩ := h.key kl hk
  rw [h.at_] at hk
  cases e : Lk.held s p with
  | none => rw [e] at hk; cases hk
  | some a =>
    obtain ⟨x, hx, hp, _⟩ := Lk.held_some e
    exact ⟨x, hx, by rw [hp]⟩
theorem IsO.few (h : IsO s V f) : Few f s.length := few_of s (fun x => ikey x.who) fun kl hk => by
  obtain ⟨z, rfl⟩ := h.key kl hk
  rw [h.at_] at hk
  by_cases e : Lk.own s z = []
  · rw [if_pos e] at hk
    cases hk
  · obtain ⟨p, hp⟩ := List.exists_mem_of_ne_nil _ e
    obtain ⟨x, hx, _, hw⟩ := Lk.mem_own.1 hp
    exact ⟨x, hx, by rw [hw]⟩
theorem IsU.few (h : IsU s f) : Few f s.length := few_of s (fun x => pkey (Lk.up x.path)) fun kl hk => by
  obtain ⟨p, rfl⟩ := h.key kl hk
  rw [h.at_] at hk
  obtain ⟨x, hx, hp⟩ := List.countP_pos_iff.1 (cnt_pos hk)
  unfold Lk.isKid at hp
  rw [Bool.and_eq_true, decide_eq_true_eq] at hp
  exact ⟨x, hx, by rw [hp.2]⟩
theorem IsS.few (h : IsS s f) : Few f s.length := few_of s (fun x => skey (Lk.up x.path) x.who) fun kl hk => by
  obtain ⟨p, z, hp, hz, rfl⟩ := h.key kl hk
  rw [h.at_ p z hp hz] at hk
  obtain ⟨x, hx, hp⟩ := List.countP_pos_iff.1 (cnt_pos hk)
  unfold Lk.isMine Lk.isKid at hp
  rw [Bool.and_eq_true, Bool.and_eq_true, decide_eq_true_eq, decide_eq_true_eq] at hp
  exact ⟨x, hx, by rw [hp.1.2, hp.2]⟩
theorem IsH.nil : IsH [] (fun _ => none) := ⟨fun _ => rfl, fun _ h => by cases h⟩
theorem IsO.nil (V : Int → Value) : IsO [] V (fun _ => none) := ⟨fun _ => rfl, fun _ h => by cases h⟩
theorem IsU.nil : IsU [] (fun _ => none) := ⟨fun _ => rfl, fun _ h => by cases h⟩
theorem IsS.nil : IsS [] (fun _ => none) := ⟨fun _ _ _ _ => rfl, fun _ h => by cases h⟩
theorem IsH.one (h : IsH s f) {p : ByteArray} (hu : Up f (pkey p) ((Lk.held s' p).map (Value.int .i64)) g) (ho : ∀ q, q ≠ p → Lk.held s' q = Lk.held s q) : IsH s' g := by
  refine ⟨fun q => ?_, fun kl hk => ?_⟩
  · by_cases e : q = p
    · rw [e, hu.same]
    · rw [hu.other _ (fun e2 => e (pkey_inj e2)), h.at_, ho q e]
  · by_cases e : kl = pkey p
    · exact ⟨p, e⟩
    · rw [hu.other _ e] at hk
      exact h.key kl hk
theorem IsU.one (h : IsU s f) {p : ByteArray} (hu : Up f (pkey p) (cnt (Lk.kids s' p)) g) (ho : ∀ q, q ≠ p → Lk.kids s' q = Lk.kids s q) : IsU s' g := by
  refine ⟨fun q => ?_, fun kl hk => ?_⟩
  · by_cases e : q = p
    · rw [e, hu.same]
    · rw [hu.other _ (fun e2 => e (pkey_inj e2)), h.at_, ho q e]
  · by_cases e : kl = pkey p
    · exact ⟨p, e⟩
    · rw [hu.other _ e] at hk
      exact h.key kl hk
theorem IsU.all (h : IsU s f) (ho : ∀ q, Lk.kids s' q = Lk.kids s q) : IsU s' f := ⟨fun q => by rw [h.at_, ho], h.key⟩
theorem IsS.one (h : IsS s f) {p : ByteArray} {z : Int} (hp : p.size ≤ maxLen) (hz : I64 z) (hu : Up f (skey p z) (cnt (Lk.mine s' p z)) g) (ho : ∀ q y, q ≠ p ∨ y ≠ z → Lk.mine s' q y = Lk.mine s q y) : IsS s' g := by
  refine ⟨fun q y hq hy => ?_, fun kl hk => ?_⟩
  · by_cases e : skey q y = skey p z
    · obtain ⟨rfl, rfl⟩ := skey_inj hq hy hp hz e
      rw [hu.same]
    · rw [hu.other _ e, h.at_ q y hq hy, ho q y]
      apply Classical.byContradiction
      intro h2
      rw [not_or, Classical.not_not, Classical.not_not] at h2
      exact e (by rw [h2.1, h2.2])
  · by_cases e : kl = skey p z
    · exact ⟨p, z, hp, hz, e⟩
    · rw [hu.other _ e] at hk
      exact h.key kl hk
theorem IsS.all (h : IsS s f) (ho : ∀ q z, Lk.mine s' q z = Lk.mine s q z) : IsS s' f := ⟨fun q z hq hz => by rw [h.at_ q z hq hz, ho], h.key⟩
theorem IsO.one (h : IsO s V f) {z : Int} {V' : Int → Value} (hu : Up f (ikey z) (if Lk.own s' z = [] then none else some (V' z)) g) (ho : ∀ y, y ≠ z → Lk.own s' y = Lk.own s y ∧ V' y = V y) : IsO s' V' g := by
  refine ⟨fun y => ?_, fun kl hk => ?_⟩
  · by_cases e : y = z
    · rw [e, hu.same]
    · rw [hu.other _ (fun e2 => e (ikey_inj e2)), h.at_, (ho y e).1, (ho y e).2]
  · by_cases e : kl = ikey z
    · exact ⟨z, e⟩
    · rw [hu.other _ e] at hk
      exact h.key kl hk
end
structure LkU (w : World) (q : Nat) (sh so : Lk.St) (F : Nat → Prop) (a b c d : Nat) (fh fo fu fs : Lit → Option Value) (V : Int → Value) : Prop where
  blk : Cb w q [.map (some a), .map (some b), .map (some c), .map (some d)] 161
  mh : Mq w 9 a fh
  mo : Mq w 2 b fo
  mu : Mq w 9 c fu
  ms : Mq w 199 d fs
  ih : IsH sh fh
  io : IsO so V fo
  row : ∀ z, Lk.own so z ≠ [] → w.ownsRow 0 9 1 (V z) (Lk.own so z).length (sc (Lk.own so z))
  apart : ∀ z y, Lk.own so z ≠ [] → Lk.own so y ≠ [] → z ≠ y → ∀ k, (V z).ownBlock = some k → (V y).ownBlock ≠ some k
  ne : a ≠ b ∧ a ≠ c ∧ a ≠ d ∧ b ≠ c ∧ b ≠ d ∧ c ≠ d
  gq : F q
  gm : F a ∧ F b ∧ F c ∧ F d
  gv : ∀ z, Lk.own so z ≠ [] → ∀ k, (V z).ownBlock = some k → F k
  flt : ∀ k, F k → k < w.heap.size
def LLk : Rep17 := fun w q s F => ∃ a b c d fh fo fu fs V, LkU w q s s F a b c d fh fo fu fs V ∧ IsU s fu ∧ IsS s fs
section
variable {w w' : World} {q a b c d : Nat} {sh so s : Lk.St} {F F' : Nat → Prop} {fh fo fu fs fh' fo' fu' fs' : Lit → Option Value} {V V' : Int → Value}
theorem LkU.keep (h : LkU w q sh so F a b c d fh fo fu fs V) (hk : ∀ k, F k → w'.heap[k]? = w.heap[k]?) : LkU w' q sh so F a b c d fh fo fu fs V := by
  refine ⟨h.blk.keep (hk q h.gq), h.mh.keep (hk a h.gm.1), h.mo.keep (hk b h.gm.2.1), h.mu.keep (hk c h.gm.2.2.1), h.ms.keep (hk d h.gm.2.2.2), h.ih, h.io, fun z hz => row_stays (h.row z hz) fun k hk2 => hk k (h.gv z hz k hk2), h.apart, h.ne, h.gq, h.gm, h.gv, fun k e => ?_⟩
  have h1 := h.flt k e
  have h2 := hk k e
  rw [Array.getElem?_eq_getElem h1] at h2
  exact (Array.getElem?_eq_some_iff.1 h2).1
theorem LkU.below (h : LkU w q sh so F a b c d fh fo fu fs V) (hb : Below w.heap.size w w') : LkU w' q sh so F a b c d fh fo fu fs V := h.keep fun k hk => hb.block k (h.flt k hk)
theorem LkU.drewN (h : LkU w q sh so F a b c d fh fo fu fs V) (n : Nat) : LkU (w.drewN n) q sh so F a b c d fh fo fu fs V := h.below (below_drewN (Below.refl _ w) n)
theorem llk_keep (h : LLk w q s F) (hk : ∀ k, F k → w'.heap[k]? = w.heap[k]?) : LLk w' q s F := by
  obtain ⟨a, b, c, d, fh, fo, fu, fs, V, h, h1, h2⟩ := h
  exact ⟨a, b, c, d, fh, fo, fu, fs, V, h.keep hk, h1, h2⟩
theorem Moved.turned {m : Nat} (ht : w.mapTurned w' m) (hm : F m) : Moved w w' F F := by
  have hg := ht.grown
  exact ⟨hg.os, hg.tape, hg.output, hg.size, fun k hk hF => hg.block k hk (by simp; exact fun e => hF (e ▸ hm)), fun _ h => Or.inl h⟩
theorem turned_keep {m k : Nat} (ht : w.mapTurned w' m) (hk : k < w.heap.size) (hne : k ≠ m) : w'.heap[k]? = w.heap[k]? := ht.grown.block k hk (by simpa using hne)
theorem LkU.rows_turned (h : LkU w q sh so F a b c d fh fo fu fs V) {m : Nat} {f : Lit → Option Value} {t : TypeId} (hm : Mq w t m f) (ht : w.mapTurned w' m) : ∀ z, Lk.own so z ≠ [] → w'.ownsRow 0 9 1 (V z) (Lk.own so z).length (sc (Lk.own so z)) := fun z hz =>
  row_stays (h.row z hz) fun k hk => turned_keep ht ((h.row z hz).lt k hk).2 fun e => hm.ne_row (h.row z hz) (by rw [hk, e])
theorem LkU.flt_turned (h : LkU w q sh so F a b c d fh fo fu fs V) {m : Nat} (ht : w.mapTurned w' m) : ∀ k, F k → k < w'.heap.size := fun k hk => Nat.lt_of_lt_of_le (h.flt k hk) ht.grown.size
theorem LkU.turn_h (h : LkU w q sh so F a b c d fh fo fu fs V) (ht : w.mapTurned w' a) (hm : Mq w' 9 a fh') {sh' : Lk.St} (hi : IsH sh' fh') : LkU w' q sh' so F a b c d fh' fo fu fs V := by
  obtain ⟨n1, n2, n3, n4, n5, n6⟩ := h.ne
  exact ⟨h.blk.keep (turned_keep ht h.blk.lt (h.mh.ne h.blk).symm), hm, h.mo.keep (turned_keep ht h.mo.lt n1.symm), h.mu.keep (turned_keep ht h.mu.lt n2.symm), h.ms.keep (turned_keep ht h.ms.lt n3.symm), hi, h.io, h.rows_turned h.mh ht, h.apart, h.ne, h.gq, h.gm, h.gv, h.flt_turned ht⟩
theorem LkU.turn_u (h : LkU w q sh so F a b c d fh fo fu fs V) (ht : w.mapTurned w' c) (hm : Mq w' 9 c fu') : LkU w' q sh so F a b c d fh fo fu' fs V := by
  obtain ⟨n1, n2, n3, n4, n5, n6⟩ := h.ne
  exact ⟨h.blk.keep (turned_keep ht h.blk.lt (h.mu.ne h.blk).symm), h.mh.keep (turned_keep ht h.mh.lt n2), h.mo.keep (turned_keep ht h.mo.lt n4), hm, h.ms.keep (turned_keep ht h.ms.lt n6.symm), h.ih, h.io, h.rows_turned h.mu ht, h.apart, h.ne, h.gq, h.gm, h.gv, h.flt_turned ht⟩
theorem LkU.turn_s (h : LkU w q sh so F a b c d fh fo fu fs V) (ht : w.mapTurned w' d) (hm : Mq w' 199 d fs') : LkU w' q sh so F a b c d fh fo fu fs' V := by
  obtain ⟨n1, n2, n3, n4, n5, n6⟩ := h.ne
  exact ⟨h.blk.keep (turned_keep ht h.blk.lt (h.ms.ne h.blk).symm), h.mh.keep (turned_keep ht h.mh.lt n3), h.mo.keep (turned_keep ht h.mo.lt n5), h.mu.keep (turned_keep ht h.mu.lt n6), hm, h.ih, h.io, h.rows_turned h.ms ht, h.apart, h.ne, h.gq, h.gm, h.gv, h.flt_turned ht⟩
theorem LkU.turn_o (h : LkU w q sh so F a b c d fh fo fu fs V) (ht : w.mapTurned w' b) {so' : Lk.St} (hm : Mq w' 2 b fo') (hi : IsO so' V fo') (hsub : ∀ z, Lk.own so' z ≠ [] → Lk.own so' z = Lk.own so z) : LkU w' q sh so' F a b c d fh fo' fu fs V := by
  obtain ⟨n1, n2, n3, n4, n5, n6⟩ := h.ne
  have hne : ∀ z, Lk.own so' z ≠ [] → Lk.own so z ≠ [] := fun z hz => by rw [← hsub z hz]; exact hz
  exact ⟨h.blk.keep (turned_keep ht h.blk.lt (h.mo.ne h.blk).symm), h.mh.keep (turned_keep ht h.mh.lt n1), hm, h.mu.keep (turned_keep ht h.mu.lt n4.symm), h.ms.keep (turned_keep ht h.ms.lt n5.symm), h.ih, hi, fun z hz => by rw [hsub z hz]; exact h.rows_turned h.mo ht z (hne z hz), fun z y hz hy => h.apart z y (hne z hz) (hne y hy), h.ne, h.gq, h.gm, fun z hz => h.gv z (hne z hz), h.flt_turned ht⟩
end
end Go.Proofs.YtboejbjobjhajaaGreatDoor
namespace Go.Proofs.YtboejbjobjhajaaGreatDoor
open Go.RowKit
theorem zeroI17 (w : World) : (zeroValue 2).run Tryz.prog w = .ok (.int .i64 0) w := by kernel_rfl
theorem zeroN17 (w : World) : (zeroValue 3).run Tryz.prog w = .ok (.int .i64 0) w := by kernel_rfl
theorem zeroSs17 (w : World) : (zeroValue 71).run Tryz.prog w = .ok (.slice none 0 0) w := by kernel_rfl
theorem parent_any17 (p : ByteArray) (w : World) (hS : Pa.Std w) (hp : p.size ≤ maxLen) :
    Calls Tryz.prog 103 #[.string p] w fun e w' => e = .returned (.tuple #[.string (Lk.upN p), .bool (Lk.under p)]) ∧ Below w.heap.size w w' := by
  by_cases h2 : 2 ≤ (Pl.parts p.data.toList).length
  · have hg : Pl.goodB p.data.toList = true := by
      cases e : Pl.goodB p.data.toList with
      | true => rfl
      | false => rw [Pl.bad_parts e] at h2; simp at h2
    have hu : Lk.under p = true := by unfold Lk.under Lk.good; rw [hg]; simp [h2]
    refine (Pa.parent_yes p w hS hg h2).mono ?_
    rintro e w' ⟨x, rfl, hx, hb⟩
    have e1 : x = Lk.up p := ByteArray.ext (Array.toList_inj.1 hx)
    unfold Lk.upN
    rw [hu, if_pos rfl, e1]
    exact ⟨rfl, hb⟩
  · have hu : Lk.under p = false := by unfold Lk.under; simp [h2]
    refine (Pa.parent_no p w hS hp (by omega)).mono ?_
    rintro e w' ⟨rfl, hb⟩
    unfold Lk.upN
    rw [hu, if_neg (by simp)]
    exact ⟨rfl, hb⟩
theorem Lk.upN_size {p : ByteArray} (hp : p.size ≤ maxLen) : (Lk.upN p).size ≤ maxLen := by
  unfold Lk.upN
  cases h : Lk.under p with
  | false => exact Nat.zero_le _
  | true =>
    rw [if_pos rfl]
    unfold Lk.under at h
    rw [Bool.and_eq_true] at h
    have h1 := Pl.parent_len h.1
    rw [Pa.sz_list] at h1
    show (Pl.parent p.data.toList).toArray.size ≤ maxLen
    simp only [List.size_toArray]
    omega
set_option maxRecDepth 20000 in
set_option maxHeartbeats 1000000 in
theorem isNone_any17 (p : ByteArray) (w : World) (hS : Pa.Std w) (hp : p.size ≤ maxLen) :
    Calls Tryz.prog 99 #[.string p] w fun e w' => e = .returned (.bool (!Lk.good p)) ∧ Below w.heap.size w w' := by
  have HS : Hid (Pa.Std w ∧ p.size ≤ maxLen) := ⟨hS, hp⟩
  clear hS hp
  go_enter Tryz.func99, Tryz.ntmps99
  go_wp2_with fail
  refine (Pa.good_any p _ HS.out.1 HS.out.2).mono ?_
  rintro e w1 ⟨rfl, hb⟩
  have HB : Hid (Below w.heap.size w w1) := hb
  clear hb
  go_wp2
  go_ret
  exact ⟨rfl, HB.out⟩
section
variable {w : World} {q a b c d : Nat} {sh so : Lk.St} {F : Nat → Prop} {fh fo fu fs : Lit → Option Value} {V : Int → Value}
theorem LkU.c0 (h : LkU w q sh so F a b c d fh fo fu fs V) : w.cell? ⟨q, 0, none⟩ = some (.map (some a)) := h.blk.cell 0
theorem LkU.c1 (h : LkU w q sh so F a b c d fh fo fu fs V) : w.cell? ⟨q, 1, none⟩ = some (.map (some b)) := h.blk.cell 1
theorem LkU.c2 (h : LkU w q sh so F a b c d fh fo fu fs V) : w.cell? ⟨q, 2, none⟩ = some (.map (some c)) := h.blk.cell 2
theorem LkU.c3 (h : LkU w q sh so F a b c d fh fo fu fs V) : w.cell? ⟨q, 3, none⟩ = some (.map (some d)) := h.blk.cell 3
set_option maxRecDepth 20000 in
set_option maxHeartbeats 1000000 in
theorem isAnothers_any17 (h : LkU w q sh so F a b c d fh fo fu fs V) (who : Int) (p : ByteArray) (hp : p.size ≤ maxLen) :
    Calls Tryz.prog 136 #[dptr q, .int .i64 who, .string p] w fun e w' => e = .returned (.bool (Lk.others sh who p)) ∧ w' = w := by
  have HH : Hid (Mq w 9 a fh ∧ fh (pkey p) = (Lk.held sh p).map (Value.int .i64) ∧ keyOf Tryz.prog 9 (.string p) = some (pkey p)) := ⟨h.mh, h.ih.at_ p, key_p hp⟩
  have t0 := h.c0
  unfold Lk.others
  obtain ⟨o, ho⟩ : ∃ o, o = Lk.held sh p := ⟨_, rfl⟩
  rw [← ho] at HH ⊢
  clear h hp ho
  cases o with
  | none =>
    go_enter Tryz.func136, Tryz.ntmps136
    go_wp2_with (at_lookup; refine wpList_lookMok rfl _ _ 156 rfl 9 2 keyedP Tryz.underlying156 (.int .i64 0) (zeroI17 _) rfl HH.out.1 (.string p) (pkey p) rfl HH.out.2.2 (.int .i64 0) false (by rw [HH.out.2.1]; rfl) (by rw [HH.out.2.1]; rfl) ?_)
    go_wp2
    go_ret
    exact ⟨rfl, rfl⟩
  | some x =>
    go_enter Tryz.func136, Tryz.ntmps136
    go_wp2_with (at_lookup; refine wpList_lookMok rfl _ _ 156 rfl 9 2 keyedP Tryz.underlying156 (.int .i64 0) (zeroI17 _) rfl HH.out.1 (.string p) (pkey p) rfl HH.out.2.2 (.int .i64 x) true (by rw [HH.out.2.1]; rfl) (by rw [HH.out.2.1]; rfl) ?_)
    go_wp2
    go_ret
    refine ⟨?_, rfl⟩
    congr 2
    by_cases e : x = who <;> simp [e]
set_option maxRecDepth 20000 in
set_option maxHeartbeats 1000000 in
theorem len_any17 {m : Nat} (h : LkU w q sh so F a b c d fh fo fu fs V) (hf : Lk.Fine m sh) :
    Calls Tryz.prog 52 #[dptr q] w fun e w' => e = .returned (.int .i64 (sh.length : Int)) ∧ w' = w := by
  have HH : Hid (Mq w 9 a fh ∧ (sh.map fun x => pkey x.path).Nodup ∧ ∀ kl, (fh kl).isSome = true ↔ kl ∈ sh.map fun x => pkey x.path) := by
    refine ⟨h.mh, ?_, fun kl => ⟨fun hk => ?_, fun hk => ?_⟩⟩
    · unfold List.Nodup
      rw [List.pairwise_map]
      exact hf.uniq.imp fun hne e => hne (pkey_inj e)
    · obtain ⟨p, rfl⟩ := h.ih.key kl hk
      rw [h.ih.at_] at hk
      cases e : Lk.held sh p with
      | none => rw [e] at hk; cases hk
      | some x =>
        obtain ⟨y, hy, hp, _⟩ := Lk.held_some e
        exact List.mem_map.2 ⟨y, hy, by rw [hp]⟩
    · obtain ⟨x, hx, rfl⟩ := List.mem_map.1 hk
      rw [h.ih.at_, Lk.held_mem hf hx]
      rfl
  have t0 := h.c0
  clear h hf
  go_enter Tryz.func52, Tryz.ntmps52
  go_wp2_with (at_len; refine wpList_lenM rfl _ 156 rfl 9 2 keyedP Tryz.underlying156 rfl HH.out.1 (sh.map fun x => pkey x.path) HH.out.2.1 HH.out.2.2 ?_)
  go_ret
  exact ⟨rfl, rfl⟩
end
set_option maxRecDepth 20000 in
set_option maxHeartbeats 1000000 in
theorem new_is17 (w : World) : Calls Tryz.prog 43 #[] w fun e w' => e = .returned (dptr (w.heap.size + 4)) ∧ w' = ((((w.alloc (.map #[] 0)).alloc (.map #[] 0)).alloc (.map #[] 0)).alloc (.map #[] 0)).alloc (.cells #[.map (some w.heap.size), .map (some (w.heap.size + 1)), .map (some (w.heap.size + 2)), .map (some (w.heap.size + 3))] 161) := by
  have hmm := @run_makeMap Tryz.prog
  go_enter Tryz.func43, Tryz.ntmps43
  go_wp2
  go_ret
  exact ⟨by simp, by simp⟩
theorem new_any17 (w : World) : Calls Tryz.prog 43 #[] w fun e w' => ∃ q F, e = .returned (dptr q) ∧ LLk w' q [] F ∧ (∀ k, F k → w.heap.size ≤ k) ∧ Below w.heap.size w w' := by
  refine (new_is17 w).mono ?_
  rintro e w' ⟨rfl, rfl⟩
  obtain ⟨g, hg⟩ : ∃ g, g = w.heap.size := ⟨_, rfl⟩
  rw [← hg]
  obtain ⟨w1, e1⟩ : ∃ w1, w1 = w.alloc (.map #[] 0) := ⟨_, rfl⟩
  have m1 : Mq w1 9 g (fun _ => none) := by rw [e1, hg]; exact Mq.made w _
  have s1 : w1.heap.size = g + 1 := by rw [e1, hg]; simp
  have b1 : Below g w w1 := by rw [e1, hg]; exact (Below.refl _ w).alloc (Nat.le_refl _) _
  rw [← e1]
  obtain ⟨w2, e2⟩ : ∃ w2, w2 = w1.alloc (.map #[] 0) := ⟨_, rfl⟩
  have m2 : Mq w2 2 (g + 1) (fun _ => none) := by rw [e2, ← s1]; exact Mq.made w1 _
  have s2 : w2.heap.size = g + 2 := by rw [e2]; simp [s1]
  have b2 : Below w1.heap.size w1 w2 := by rw [e2]; exact (Below.refl _ w1).alloc (Nat.le_refl _) _
  rw [← e2]
  obtain ⟨w3, e3⟩ : ∃ w3, w3 = w2.alloc (.map #[] 0) := ⟨_, rfl⟩
  have m3 : Mq w3 9 (g + 2) (fun _ => none) := by rw [e3, ← s2]; exact Mq.made w2 _
  have s3 : w3.heap.size = g + 3 := by rw [e3]; simp [s2]
  have b3 : Below w2.heap.size w2 w3 := by rw [e3]; exact (Below.refl _ w2).alloc (Nat.le_refl _) _
  rw [← e3]
  obtain ⟨w4, e4⟩ : ∃ w4, w4 = w3.alloc (.map #[] 0) := ⟨_, rfl⟩
  have m4 : Mq w4 199 (g + 3) (fun _ => none) := by rw [e4, ← s3]; exact Mq.made w3 _
  have s4 : w4.heap.size = g + 4 := by rw [e4]; simp [s3]
  have b4 : Below w3.heap.size w3 w4 := by rw [e4]; exact (Below.refl _ w3).alloc (Nat.le_refl _) _
  rw [← e4]
  obtain ⟨w5, e5⟩ : ∃ w5, w5 = w4.alloc (.cells #[.map (some g), .map (some (g + 1)), .map (some (g + 2)), .map (some (g + 3))] 161) := ⟨_, rfl⟩
  have m5 : Cb w5 (g + 4) [.map (some g), .map (some (g + 1)), .map (some (g + 2)), .map (some (g + 3))] 161 := by rw [e5, ← s4]; exact Cb.made w4 _ _
  have s5 : w5.heap.size = g + 5 := by rw [e5]; simp [s4]
  have b5 : Below w4.heap.size w4 w5 := by rw [e5]; exact (Below.refl _ w4).alloc (Nat.le_refl _) _
  rw [← e5]
  have k1 : w5.heap[g]? = w1.heap[g]? := by rw [b5.block g (by omega), b4.block g (by omega), b3.block g (by omega), b2.block g (by omega)]
  have k2 : w5.heap[g + 1]? = w2.heap[g + 1]? := by rw [b5.block _ (by omega), b4.block _ (by omega), b3.block _ (by omega)]
  have k3 : w5.heap[g + 2]? = w3.heap[g + 2]? := by rw [b5.block _ (by omega), b4.block _ (by omega)]
  have k4 : w5.heap[g + 3]? = w4.heap[g + 3]? := by rw [b5.block _ (by omega)]
  refine ⟨g + 4, fun k => g ≤ k ∧ k < g + 5, rfl, ⟨g, g + 1, g + 2, g + 3, fun _ => none, fun _ => none, fun _ => none, fun _ => none, fun _ => .slice none 0 0, ⟨m5, m1.keep k1, m2.keep k2, m3.keep k3, m4.keep k4, IsH.nil, IsO.nil _, fun z hz => absurd rfl hz, fun z y hz => absurd rfl hz, by omega, by omega, by omega, fun z hz => absurd rfl hz, fun k hk => by omega⟩, IsU.nil, IsS.nil⟩, fun k hk => hk.1, ?_⟩
  have hb2 : Below g w w2 := b1.trans (b2.mono (by omega))
  have hb3 : Below g w w3 := hb2.trans (b3.mono (by omega))
  have hb4 : Below g w w4 := hb3.trans (b4.mono (by omega))
  exact hb4.trans (b5.mono (by omega))
end Go.Proofs.YtboejbjobjhajaaGreatDoor
namespace Go.Proofs.YtboejbjobjhajaaGreatDoor
open Go.RowKit
structure Bk17 (w : World) (q : Nat) (s : Lk.St) (who : Int) (p u : ByteArray) (E1 E2 : Bool) (n1 n2 : Nat) (c d : Nat) : Prop where
  o1 : ∀ n, Calls Tryz.prog 136 #[dptr q, .int .i64 who, .string p] (w.drewN n) fun e w' => e = .returned (.bool E1) ∧ w' = w.drewN n
  o2 : ∀ n, Calls Tryz.prog 136 #[dptr q, .int .i64 who, .string u] (w.drewN n) fun e w' => e = .returned (.bool E2) ∧ w' = w.drewN n
  l1 : ∀ n, (Instr.lookup 158 (.map (some c)) (.string p) false).run Tryz.prog (w.drewN n) = .ok (.int .i64 (n1 : Int)) (w.drewN n)
  l2 : ∀ n, (Instr.lookup 159 (.map (some d)) (.agg #[.string p, .int .i64 who]) false).run Tryz.prog (w.drewN n) = .ok (.int .i64 (n2 : Int)) (w.drewN n)
  c2 : w.cell? ⟨q, 2, none⟩ = some (.map (some c))
  c3 : w.cell? ⟨q, 3, none⟩ = some (.map (some d))
section
variable {w : World} {q a b c d : Nat} {s : Lk.St} {F : Nat → Prop} {fh fo fu fs : Lit → Option Value} {V : Int → Value}
theorem bk_of17 (h : LkU w q s s F a b c d fh fo fu fs V) (hu : IsU s fu) (hs : IsS s fs) {who : Int} (hw : I64 who) {p : ByteArray} (hp : p.size ≤ maxLen) : Bk17 w q s who p (Lk.upN p) (Lk.others s who p) (Lk.others s who (Lk.upN p)) (Lk.kids s p) (Lk.mine s p who) c d :=
  ⟨fun n => isAnothers_any17 (h.drewN n) who p hp, fun n => isAnothers_any17 (h.drewN n) who _ (Lk.upN_size hp),
    fun n => by rw [(h.drewN n).mu.look keyedP Tryz.underlying158 (zeroN17 _) (key_p hp), hu.at_, cnt_getD],
    fun n => by
      have e := (h.drewN n).ms.look keyedS Tryz.underlying159 (zeroN17 _) (key_s hp hw)
      rw [hs.at_ p who hp hw, cnt_getD] at e
      exact e, h.c2, h.c3⟩
set_option maxRecDepth 20000 in
set_option maxHeartbeats 4000000 in
theorem blocks_any17 {m : Nat} (h : LkU w q s s F a b c d fh fo fu fs V) (hu : IsU s fu) (hs : IsS s fs) (hf : Lk.Fine m s) (hS : Pa.Std w) (who : Int) (hw : I64 who) (p : ByteArray) (hp : p.size ≤ maxLen) :
    Calls Tryz.prog 101 #[dptr q, .int .i64 who, .string p] w fun e w' => e = .returned (.bool (Lk.blocks s who p)) ∧ Below w.heap.size w w' := by
  have HH : Hid (LkU w q s s F a b c d fh fo fu fs V ∧ IsU s fu ∧ IsS s fs ∧ Pa.Std w ∧ I64 who ∧ p.size ≤ maxLen) := ⟨h, hu, hs, hS, hw, hp⟩
  obtain ⟨R, hR⟩ : ∃ R, R = Lk.blocks s who p := ⟨_, rfl⟩
  rw [← hR]
  rw [Lk.blocks_counts hf] at hR
  clear h hu hs hf hS hw hp
  cases hg : Lk.good p with
  | false =>
    rw [hg, Bool.false_and] at hR
    subst hR
    have HN : Hid (Calls Tryz.prog 99 #[.string p] w fun e w' => e = .returned (.bool true) ∧ Below w.heap.size w w') := by
      have h1 := isNone_any17 p w HH.out.2.2.2.1 HH.out.2.2.2.2.2
      rw [hg] at h1
      exact h1
    clear hg
    go_enter Tryz.func101, Tryz.ntmps101
    go_wp2_with fail
    refine HN.out.mono ?_
    rintro e w1 ⟨rfl, hb⟩
    have HB : Hid (Below w.heap.size w w1) := hb
    clear hb
    go_wp2
    go_ret
    exact ⟨rfl, HB.out⟩
  | true =>
    rw [hg, Bool.true_and] at hR
    have HN : Hid (Calls Tryz.prog 99 #[.string p] w fun e w' => e = .returned (.bool false) ∧ Below w.heap.size w w') := by
      have h1 := isNone_any17 p w HH.out.2.2.2.1 HH.out.2.2.2.2.2
      rw [hg] at h1
      exact h1
    clear hg
    go_enter Tryz.func101, Tryz.ntmps101
    go_wp2_with fail
    refine HN.out.mono ?_
    rintro e w1 ⟨rfl, hb⟩
    have HB : Hid (Below w.heap.size w w1) := hb
    clear hb
    go_wp2_with fail
    refine (parent_any17 p w1 (HH.out.2.2.2.1.below HB.out) HH.out.2.2.2.2.2).mono ?_
    rintro e w2 ⟨rfl, hb⟩
    have HB2 : Hid (Below w.heap.size w w2) := HB.out.trans (hb.mono HB.out.size)
    clear hb
    obtain ⟨un, hun⟩ : ∃ z, z = Lk.under p := ⟨_, rfl⟩
    rw [← hun]
    have hk := bk_of17 (HH.out.1.below HB2.out) HH.out.2.1 HH.out.2.2.1 HH.out.2.2.2.2.1 HH.out.2.2.2.2.2
    generalize Lk.upN p = u at *
    generalize Lk.others s who p = E1 at *
    generalize Lk.others s who u = E2 at *
    generalize Lk.kids s p = n1 at *
    generalize Lk.mine s p who = n2 at *
    have HK : Hid (Bk17 w2 q s who p u E1 E2 n1 n2 c d) := hk
    have t2 := hk.c2
    have t3 := hk.c3
    have l1 := hk.l1
    have l2 := hk.l2
    clear hk hun HN HB
    cases E1 with
    | true =>
      rw [Bool.true_or, Bool.true_or] at hR
      subst hR
      go_wp2
      go_quiet (first | (go_at_call 136; with_reducible exact Calls.quiet_of_same (HK.out.o1 _)))
      go_wp2
      go_ret
      exact ⟨rfl, below_drewN HB2.out _⟩
    | false =>
      cases E2 with
      | true =>
        rw [Bool.false_or, Bool.true_or] at hR
        subst hR
        go_wp2
        go_quiet (first | (go_at_call 136; with_reducible exact Calls.quiet_of_same (HK.out.o1 _)) | (go_at_call 136; with_reducible exact Calls.quiet_of_same (HK.out.o2 _)))
        go_wp2
        go_ret
        exact ⟨rfl, below_drewN HB2.out _⟩
      | false =>
        rw [Bool.false_or, Bool.false_or] at hR
        have HR : Hid (R = decide (n2 < n1)) := hR
        clear hR
        go_wp2
        go_quiet (first | (go_at_call 136; with_reducible exact Calls.quiet_of_same (HK.out.o1 _)) | (go_at_call 136; with_reducible exact Calls.quiet_of_same (HK.out.o2 _)))
        go_wp2
        go_ret
        refine ⟨?_, below_drewN HB2.out _⟩
        rw [HR.out]
        simp
end
end Go.Proofs.YtboejbjobjhajaaGreatDoor
