/- Paths that are held, counted by their Parent and by their holder, plainly. -/
import Derived.Test.YtadgjinlblloiaaDoorPlainL17
namespace Go.Proofs.YtadgjinlblloiaaDoor.Lk
open Go

/-- Is x right under p? -/
def isKid (p : ByteArray) (x : Hd) : Bool := under x.path && decide (up x.path = p)
/-- .. and who's? -/
def isMine (p : ByteArray) (who : Int) (x : Hd) : Bool := isKid p x && decide (x.who = who)
def kids (s : St) (p : ByteArray) : Nat := s.countP (isKid p)
def mine (s : St) (p : ByteArray) (who : Int) : Nat := s.countP (isMine p who)
/-- A holder's paths. -/
def own (s : St) (who : Int) : List ByteArray := (s.filter fun x => decide (x.who = who)).map Hd.path
/-- Does another hold it? -/
def others (s : St) (who : Int) (p : ByteArray) : Bool := match held s p with
  | some a => decide (a ≠ who)
  | none => false
theorem countP_split {α : Type} (p q : α → Bool) : ∀ l : List α, l.countP p = l.countP (fun x => p x && q x) + l.countP (fun x => p x && !q x)
  | [] => rfl
  | a :: l => by
    have ih := countP_split p q l
    rw [List.countP_cons, List.countP_cons, List.countP_cons]
    cases p a <;> cases q a <;> simp <;> omega
theorem kids_mine (s : St) (p : ByteArray) (who : Int) : kids s p = mine s p who + s.countP (fun x => isKid p x && !decide (x.who = who)) := countP_split _ _ s
theorem mine_le (s : St) (p : ByteArray) (who : Int) : mine s p who ≤ kids s p := by have := kids_mine s p who; omega
theorem kids_le (s : St) (p : ByteArray) : kids s p ≤ s.length := List.countP_le_length
theorem lt_any (s : St) (p : ByteArray) (who : Int) : decide (mine s p who < kids s p) = s.any (fun x => decide (x.who ≠ who) && isKid p x) := by
  have h := kids_mine s p who
  cases e : s.any (fun x => decide (x.who ≠ who) && isKid p x) with
  | true =>
    rw [List.any_eq_true] at e
    obtain ⟨x, hx, hp⟩ := e
    have h1 : 0 < s.countP (fun x => isKid p x && !decide (x.who = who)) := List.countP_pos_iff.2 ⟨x, hx, by simp only [Bool.and_eq_true, decide_eq_true_eq, Bool.not_eq_true', decide_eq_false_iff_not, ne_eq] at hp ⊢; exact ⟨hp.2, hp.1⟩⟩
    exact decide_eq_true (by omega)
  | false =>
    rw [List.any_eq_false] at e
    have h1 : s.countP (fun x => isKid p x && !decide (x.who = who)) = 0 := List.countP_eq_zero.2 fun x hx => by
      have := e x hx
      simp only [Bool.and_eq_true, decide_eq_true_eq, Bool.not_eq_true', decide_eq_false_iff_not, ne_eq] at this ⊢
      exact fun h2 => this ⟨h2.2, h2.1⟩
    exact decide_eq_false (by omega)
theorem others_any {m : Nat} {s : St} (h : Fine m s) (who : Int) (p : ByteArray) : others s who p = s.any (fun x => decide (x.who ≠ who) && decide (x.path = p)) := by
  unfold others
  cases e : held s p with
  | none =>
    symm
    rw [List.any_eq_false]
    intro x hx
    have := held_none.1 e x hx
    simp [this]
  | some a =>
    obtain ⟨x, hx, hp, ha⟩ := held_some e
    simp only []
    by_cases hw : a = who
    · rw [decide_eq_false (by simpa using hw)]
      symm
      rw [List.any_eq_false]
      intro y hy
      by_cases hy2 : y.path = p
      · have h1 := uniq_eq h.uniq hy hx (by rw [hy2, hp])
        rw [h1, ha]
        simp [hw]
      · simp [hy2]
    · rw [decide_eq_true (by simpa using hw)]
      symm
      rw [List.any_eq_true]
      exact ⟨x, hx, by simp [hp, ha, hw]⟩
theorem any_or {α : Type} (p q : α → Bool) : ∀ l : List α, l.any (fun x => p x || q x) = (l.any p || l.any q)
  | [] => rfl
  | a :: l => by
    rw [List.any_cons, List.any_cons, List.any_cons, any_or p q l]
    cases p a <;> cases q a <;> cases l.any p <;> cases l.any q <;> rfl
/-- The Parent, or nothing. -/
def upN (p : ByteArray) : ByteArray := if under p = true then up p else ⟨#[]⟩
theorem not_good_nil : good ⟨#[]⟩ = false := by
  unfold good
  decide
theorem others_nil {m : Nat} {s : St} (h : Fine m s) (who : Int) : others s who ⟨#[]⟩ = false := by
  unfold others
  cases e : held s ⟨#[]⟩ with
  | none => rfl
  | some a =>
    have := held_good h e
    rw [not_good_nil] at this
    cases this
/-- Blocked, as the counts tell. -/
theorem blocks_counts {m : Nat} {s : St} (h : Fine m s) (who : Int) (p : ByteArray) : blocks s who p = (good p && (others s who p || others s who (upN p) || decide (mine s p who < kids s p))) := by
  unfold blocks
  congr 1
  have e1 : (s.any (bars who p)) = s.any (fun x => ((decide (x.who ≠ who) && decide (x.path = p)) || (decide (x.who ≠ who) && (under p && decide (x.path = up p)))) || (decide (x.who ≠ who) && isKid p x)) := by
    congr 1
    funext x
    unfold bars near isKid
    have e : decide (x.path = p) = decide (x.path = p) := rfl
    cases decide (x.who ≠ who) <;> cases decide (x.path = p) <;> cases under p <;> cases decide (x.path = up p) <;> cases under x.path <;> cases decide (up x.path = p) <;> rfl
  rw [e1, any_or, any_or, ← others_any h, lt_any]
  congr 2
  unfold upN
  cases hu : under p with
  | false =>
    rw [if_neg (by simp), others_nil h]
    simp
  | true =>
    rw [if_pos rfl, others_any h]
    congr 1
/-! What comes, and what goes. -/
theorem kids_snoc (s : St) (x : Hd) (p : ByteArray) : kids (s ++ [x]) p = kids s p + (if isKid p x = true then 1 else 0) := by
  unfold kids
  rw [List.countP_append, List.countP_singleton]
theorem mine_snoc (s : St) (x : Hd) (p : ByteArray) (who : Int) : mine (s ++ [x]) p who = mine s p who + (if isMine p who x = true then 1 else 0) := by
  unfold mine
  rw [List.countP_append, List.countP_singleton]
theorem own_snoc (s : St) (x : Hd) (who : Int) : own (s ++ [x]) who = own s who ++ (if x.who = who then [x.path] else []) := by
  unfold own
  rw [List.filter_append, List.map_append]
  congr 1
  by_cases h : x.who = who
  · rw [if_pos h, List.filter_cons_of_pos (by simpa using h)]
    rfl
  · rw [if_neg h, List.filter_cons_of_neg (by simpa using h)]
    rfl
/-- Without the path p. -/
def less (s : St) (p : ByteArray) : St := s.filter fun x => decide (x.path ≠ p)
theorem mem_less {s : St} {p : ByteArray} {x : Hd} : x ∈ less s p ↔ x ∈ s ∧ x.path ≠ p := by unfold less; simp
theorem less_split {s : St} (h : s.Pairwise fun x y => x.path ≠ y.path) {x : Hd} (hx : x ∈ s) : ∃ a b, s = a ++ x :: b ∧ less s x.path = a ++ b := by
  obtain ⟨a, b, rfl⟩ := List.append_of_mem hx
  refine ⟨a, b, rfl, ?_⟩
  unfold less
  rw [List.filter_append, List.filter_cons_of_neg (by simp)]
  rw [List.pairwise_append, List.pairwise_cons] at h
  congr 1
  · rw [List.filter_eq_self]
    intro y hy
    simpa using h.2.2 y hy x (by simp)
  · rw [List.filter_eq_self]
    intro y hy
    simpa using (h.2.1.1 y hy).symm
theorem kids_less {s : St} (h : s.Pairwise fun x y => x.path ≠ y.path) {x : Hd} (hx : x ∈ s) (p : ByteArray) : kids s p = kids (less s x.path) p + (if isKid p x = true then 1 else 0) := by
  obtain ⟨a, b, e1, e2⟩ := less_split h hx
  rw [e2, e1]
  unfold kids
  rw [List.countP_append, List.countP_append, List.countP_cons]
  omega
theorem mine_less {s : St} (h : s.Pairwise fun x y => x.path ≠ y.path) {x : Hd} (hx : x ∈ s) (p : ByteArray) (who : Int) : mine s p who = mine (less s x.path) p who + (if isMine p who x = true then 1 else 0) := by
  obtain ⟨a, b, e1, e2⟩ := less_split h hx
  rw [e2, e1]
  unfold mine
  rw [List.countP_append, List.countP_append, List.countP_cons]
  omega
theorem len_less {s : St} (h : s.Pairwise fun x y => x.path ≠ y.path) {x : Hd} (hx : x ∈ s) : (less s x.path).length + 1 = s.length := by
  obtain ⟨a, b, e1, e2⟩ := less_split h hx
  rw [e2, e1, List.length_append, List.length_append, List.length_cons]
  omega
theorem held_less {s : St} (p q : ByteArray) : held (less s p) q = if q = p then none else held s q := by
  by_cases e : q = p
  · rw [if_pos e]
    exact held_none.2 fun x hx => by rw [e]; exact (mem_less.1 hx).2
  · rw [if_neg e]
    unfold held less
    rw [List.find?_filter]
    congr 1
    congr 1
    funext x
    by_cases h : x.path = q
    · simp [h, e]
    · simp [h]
theorem Fine.less {m : Nat} {s : St} (h : Fine m s) (p : ByteArray) : Fine m (less s p) :=
  ⟨fun x hx => h.good x (mem_less.1 hx).1, h.uniq.filter _, fun x hx y hy => h.apart x (mem_less.1 hx).1 y (mem_less.1 hy).1, fun x hx => h.rng x (mem_less.1 hx).1, Nat.le_trans (List.length_filter_le _ _) h.len⟩
/-- Without these. -/
def lesses (s : St) (ps : List ByteArray) : St := ps.foldl less s
theorem lesses_snoc (s : St) (ps : List ByteArray) (p : ByteArray) : lesses s (ps ++ [p]) = less (lesses s ps) p := by unfold lesses; rw [List.foldl_append]; rfl
theorem lesses_eq : ∀ (ps : List ByteArray) (s : St), lesses s ps = s.filter fun x => ps.all fun p => decide (x.path ≠ p)
  | [], s => by unfold lesses; exact (List.filter_eq_self.2 fun _ _ => rfl).symm
  | p :: ps, s => by
    have h : lesses s (p :: ps) = lesses (less s p) ps := rfl
    rw [h, lesses_eq ps]
    unfold less
    rw [List.filter_filter]
    congr 1
    funext x
    rw [List.all_cons, Bool.and_comm]
theorem mem_own {s : St} {who : Int} {p : ByteArray} : p ∈ own s who ↔ ∃ x ∈ s, x.path = p ∧ x.who = who := by
  unfold own
  simp only [List.mem_map, List.mem_filter, decide_eq_true_eq]
  constructor
  · rintro ⟨x, ⟨h1, h2⟩, h3⟩
    exact ⟨x, h1, h3, h2⟩
  · rintro ⟨x, h1, h2, h3⟩
    exact ⟨x, ⟨h1, h3⟩, h2⟩
theorem lesses_own {m : Nat} {s : St} (h : Fine m s) (who : Int) : lesses s (own s who) = rest s who := by
  rw [lesses_eq]
  unfold rest
  refine List.filter_congr fun x hx => ?_
  by_cases e : x.who = who
  · rw [decide_eq_false (by simpa using e), List.all_eq_false]
    exact ⟨x.path, mem_own.2 ⟨x, hx, rfl, e⟩, by simp⟩
  · rw [decide_eq_true (by simpa using e), List.all_eq_true]
    intro p hp
    obtain ⟨y, hy, h1, h2⟩ := mem_own.1 hp
    refine decide_eq_true fun h3 => ?_
    rw [← uniq_eq h.uniq hy hx (by rw [h1, h3])] at e
    exact e h2
theorem own_nodup {m : Nat} {s : St} (h : Fine m s) (who : Int) : (own s who).Nodup := by
  unfold own List.Nodup
  rw [List.pairwise_map]
  exact h.uniq.filter _
theorem own_len (s : St) (who : Int) : ((own s who).length : Int) = free s who := by
  unfold own free rest
  rw [List.length_map]
  have h : ∀ l : St, (l.filter fun x => decide (x.who = who)).length + (l.filter fun x => decide (x.who ≠ who)).length = l.length := by
    intro l
    induction l with
    | nil => rfl
    | cons a l ih =>
      by_cases e : a.who = who
      · rw [List.filter_cons_of_pos (by simpa using e), List.filter_cons_of_neg (by simpa using e), List.length_cons, List.length_cons]
        omega
      · rw [List.filter_cons_of_neg (by simpa using e), List.filter_cons_of_pos (by simpa using e), List.length_cons, List.length_cons]
        omega
  have := h s
  omega
theorem own_rest (s : St) (who a : Int) : own (rest s who) a = if a = who then [] else own s a := by
  unfold own rest
  rw [List.filter_filter]
  by_cases e : a = who
  · rw [if_pos e]
    rw [show (s.filter fun x => decide (x.who = a) && decide (x.who ≠ who)) = [] from List.filter_eq_nil_iff.2 fun x _ => by simp [e]]
    rfl
  · rw [if_neg e]
    congr 1
    refine List.filter_congr fun x _ => ?_
    by_cases h : x.who = a
    · simp [h, e]
    · simp [h]
theorem own_le (s : St) (who : Int) : (own s who).length ≤ s.length := by unfold own; rw [List.length_map]; exact List.length_filter_le _ _
end Go.Proofs.YtadgjinlblloiaaDoor.Lk
