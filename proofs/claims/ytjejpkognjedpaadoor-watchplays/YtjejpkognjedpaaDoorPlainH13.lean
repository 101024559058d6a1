/- Watches: who waits for what. Plain reckoning, no program. -/
import Derived.Test.YtjejpkognjedpaaDoorPlainK10
import Derived.Test.YtjejpkognjedpaaDoorLibP
namespace Go.Proofs.YtjejpkognjedpaaDoor.Hq

/-- A watch; or, its number being what is told, an event. -/
structure Wt where
  sess : Int
  kind : Int
  path : ByteArray
def same (a b : Wt) : Bool := decide (a.sess = b.sess) && decide (a.kind = b.kind) && decide (a.path = b.path)
theorem same_iff {a b : Wt} : same a b = true ↔ a = b := by
  unfold same
  cases a
  cases b
  simp [and_assoc]
/-- By session, kind, path. -/
def lt (a b : Wt) : Bool := if a.sess = b.sess then if a.kind = b.kind then Kq.lt a.path b.path else decide (a.kind < b.kind) else decide (a.sess < b.sess)
theorem lt_iff {a b : Wt} : lt a b = true ↔ a.sess < b.sess ∨ (a.sess = b.sess ∧ (a.kind < b.kind ∨ (a.kind = b.kind ∧ Kq.lt a.path b.path = true))) := by
  unfold lt
  split
  · rename_i h
    split
    · rename_i k
      simp [h, k]
    · rename_i k
      simp [h, k]
  · rename_i h
    simp [h]
theorem lt_irrefl (a : Wt) : lt a a = false := by unfold lt; simp [Kq.lt_irrefl]
theorem lt_trans {a b c : Wt} (h : lt a b = true) (k : lt b c = true) : lt a c = true := by
  rw [lt_iff] at h k ⊢
  rcases h with h | ⟨h1, h | ⟨h2, h⟩⟩
  · rcases k with k | ⟨k1, _⟩
    · exact Or.inl (by omega)
    · exact Or.inl (by omega)
  · rcases k with k | ⟨k1, k | ⟨k2, _⟩⟩
    · exact Or.inl (by omega)
    · exact Or.inr ⟨by omega, Or.inl (by omega)⟩
    · exact Or.inr ⟨by omega, Or.inl (by omega)⟩
  · rcases k with k | ⟨k1, k | ⟨k2, k⟩⟩
    · exact Or.inl (by omega)
    · exact Or.inr ⟨by omega, Or.inl (by omega)⟩
    · exact Or.inr ⟨by omega, Or.inr ⟨by omega, Kq.lt_trans h k⟩⟩
theorem lt_total {a b : Wt} (h : lt a b = false) (k : lt b a = false) : a = b := by
  have h1 : ¬ lt a b = true := by simp [h]
  have k1 : ¬ lt b a = true := by simp [k]
  rw [lt_iff] at h1 k1
  have e1 : a.sess = b.sess := by omega
  have e2 : a.kind = b.kind := by omega
  have e3 : a.path = b.path := by
    refine Kq.lt_total ?_ ?_
    · cases e : Kq.lt a.path b.path with
      | false => rfl
      | true => exact absurd (Or.inr ⟨e1, Or.inr ⟨e2, e⟩⟩) h1
    · cases e : Kq.lt b.path a.path with
      | false => rfl
      | true => exact absurd (Or.inr ⟨e1.symm, Or.inr ⟨e2.symm, e⟩⟩) k1
  cases a
  cases b
  simp_all
theorem lt_asymm {a b : Wt} (h : lt a b = true) : lt b a = false := by
  cases k : lt b a with
  | false => rfl
  | true => rw [← lt_irrefl a]; exact (lt_trans h k).symm
/-- Each is below those behind it. -/
def Rises (l : List Wt) : Prop := l.Pairwise fun a b => lt a b = true
def has (l : List Wt) (x : Wt) : Bool := l.any fun y => same y x
theorem has_iff {l : List Wt} {x : Wt} : has l x = true ↔ x ∈ l := by
  unfold has
  rw [List.any_eq_true]
  constructor
  · rintro ⟨y, hy, h⟩
    rw [same_iff] at h
    exact h ▸ hy
  · intro h
    exact ⟨x, h, same_iff.2 rfl⟩
/-- How many are below. -/
def pos (l : List Wt) (x : Wt) : Nat := (l.takeWhile fun y => lt y x).length
def ins (l : List Wt) (x : Wt) : List Wt := l.take (pos l x) ++ x :: l.drop (pos l x)
theorem pos_le : ∀ (l : List Wt) (x : Wt), pos l x ≤ l.length
  | [], _ => Nat.le_refl _
  | a :: l, x => by
    unfold pos
    rw [List.takeWhile_cons]
    split
    · have h := pos_le l x
      unfold pos at h
      simpa using h
    · simp
/-- What is ahead of the place is below. -/
theorem pos_low : ∀ {l : List Wt} {x y : Wt} {j : Nat}, j < pos l x → l[j]? = some y → lt y x = true
  | [], _, _, _, h, _ => by simp [pos] at h
  | a :: l, x, y, 0, h, hy => by
    unfold pos at h
    rw [List.takeWhile_cons] at h
    split at h
    · rename_i ha
      simp at hy
      exact hy ▸ ha
    · simp at h
  | a :: l, x, y, j + 1, h, hy => by
    unfold pos at h
    rw [List.takeWhile_cons] at h
    split at h
    · exact pos_low (l := l) (x := x) (y := y) (j := j) (by simp at h; unfold pos; omega) (by simpa using hy)
    · simp at h
/-- What is behind it is not. -/
theorem pos_high : ∀ {l : List Wt} {x y : Wt} {j : Nat}, Rises l → pos l x ≤ j → l[j]? = some y → lt y x = false
  | [], _, _, _, _, _, hy => by simp at hy
  | a :: l, x, y, j, hr, h, hy => by
    obtain ⟨h1, h2⟩ := List.pairwise_cons.1 hr
    unfold pos at h
    rw [List.takeWhile_cons] at h
    split at h
    · rename_i ha
      cases j with
      | zero => simp at h
      | succ j => exact pos_high (l := l) (j := j) h2 (by simp at h; unfold pos; omega) (by simpa using hy)
    · rename_i ha
      have ha' : lt a x = false := by simpa using ha
      cases j with
      | zero => simp at hy; exact hy ▸ ha'
      | succ j =>
        have hm : y ∈ l := List.mem_of_getElem? (i := j) (by simpa using hy)
        have hay := h1 y hm
        cases e : lt y x with
        | false => rfl
        | true => rw [lt_trans hay e] at ha'; cases ha'
theorem pos_at {l : List Wt} {x : Wt} (hr : Rises l) : has l x = true ↔ l[pos l x]? = some x := by
  rw [has_iff]
  constructor
  · intro h
    obtain ⟨j, hj⟩ := List.mem_iff_getElem?.1 h
    have h1 : ¬ j < pos l x := fun e => by have := pos_low e hj; rw [lt_irrefl] at this; cases this
    rcases Nat.lt_or_ge (pos l x) j with h2 | h2
    · have hjl := (List.getElem?_eq_some_iff.1 hj).1
      have hp : l[pos l x]? = some l[pos l x] := List.getElem?_eq_getElem (by omega)
      have h3 := pos_high hr (Nat.le_refl _) hp
      have h4 : lt l[pos l x] x = true := by
        have h5 := List.pairwise_iff_getElem.1 hr (pos l x) j (by omega) hjl h2
        rw [(List.getElem?_eq_some_iff.1 hj).2] at h5
        exact h5
      rw [h4] at h3
      cases h3
    · have e : pos l x = j := by omega
      rw [e]
      exact hj
  · intro h
    exact List.mem_of_getElem? h
theorem ins_mem {l : List Wt} {x y : Wt} : y ∈ ins l x ↔ y = x ∨ y ∈ l := by
  unfold ins
  constructor
  · intro h
    rcases List.mem_append.1 h with h | h
    · exact Or.inr (List.mem_of_mem_take h)
    · rcases List.mem_cons.1 h with h | h
      · exact Or.inl h
      · exact Or.inr (List.mem_of_mem_drop h)
  · rintro (h | h)
    · exact List.mem_append.2 (Or.inr (by simp [h]))
    · rw [← List.take_append_drop (pos l x) l] at h
      rcases List.mem_append.1 h with h | h
      · exact List.mem_append.2 (Or.inl h)
      · exact List.mem_append.2 (Or.inr (by simp [h]))
theorem ins_len (l : List Wt) (x : Wt) : (ins l x).length = l.length + 1 := by
  unfold ins
  have := pos_le l x
  simp
  omega
theorem ins_rises {l : List Wt} {x : Wt} (hr : Rises l) (hn : has l x = false) : Rises (ins l x) := by
  unfold ins Rises
  have hx : x ∉ l := fun h => by rw [has_iff.2 h] at hn; cases hn
  have hlow : ∀ y ∈ l.take (pos l x), lt y x = true := fun y hy => by
    obtain ⟨j, hj⟩ := List.mem_iff_getElem?.1 hy
    rw [List.getElem?_take] at hj
    split at hj
    · rename_i h
      exact pos_low h hj
    · cases hj
  have hhigh : ∀ y ∈ l.drop (pos l x), lt x y = true := fun y hy => by
    obtain ⟨j, hj⟩ := List.mem_iff_getElem?.1 hy
    rw [List.getElem?_drop] at hj
    have h1 := pos_high hr (Nat.le_add_right _ _) hj
    cases e : lt x y with
    | true => rfl
    | false => exact absurd (lt_total e h1 ▸ List.mem_of_getElem? hj) hx
  rw [List.pairwise_append]
  refine ⟨hr.sublist (List.take_sublist _ _), List.pairwise_cons.2 ⟨hhigh, hr.sublist (List.drop_sublist _ _)⟩, fun a ha b hb => ?_⟩
  rcases List.mem_cons.1 hb with rfl | hb
  · exact hlow a ha
  · exact lt_trans (hlow a ha) (hhigh b hb)

/-- What is kept. -/
structure St where
  room : Int
  l : List Wt
def may (x : Wt) : Bool := decide (1 ≤ x.sess) && Pl.goodB x.path.data.toList && (decide (x.kind = 1) || decide (x.kind = 2))
theorem may_iff {x : Wt} : may x = true ↔ 1 ≤ x.sess ∧ Pl.goodB x.path.data.toList = true ∧ (x.kind = 1 ∨ x.kind = 2) := by
  unfold may
  simp [and_assoc]
def arm (s : St) (x : Wt) : Int × St := if may x then if has s.l x then (0, s) else if s.room ≤ (s.l.length : Int) then (9, s) else (0, { s with l := ins s.l x }) else (1, s)
/-- The Parent's text; none where there is no Parent. -/
def up (p : ByteArray) : ByteArray := ⟨(Pl.parent p.data.toList).toArray⟩
/-- Whether a watch hears a change of p, and what it is told then. -/
def hears (p : ByteArray) (c : Int) (x : Wt) : Bool := if x.kind = 1 then decide (x.path = p) else if x.path = p then decide (c = 2) else decide (x.path = up p) && decide (c ≠ 3)
def told (p : ByteArray) (c : Int) (x : Wt) : Wt := ⟨x.sess, if x.kind = 1 then c else if x.path = p then c else 4, x.path⟩
def can (p : ByteArray) (c : Int) : Bool := decide (1 ≤ c) && decide (c ≤ 3) && Pl.goodB p.data.toList
theorem can_iff {p : ByteArray} {c : Int} : can p c = true ↔ 1 ≤ c ∧ c ≤ 3 ∧ Pl.goodB p.data.toList = true := by
  unfold can
  simp [and_assoc]
def events (s : St) (p : ByteArray) (c : Int) : List Wt := if can p c then (s.l.filter (hears p c)).map (told p c) else []
def fired (s : St) (p : ByteArray) (c : Int) : St := if can p c then { s with l := s.l.filter fun x => !hears p c x } else s
def drop (s : St) (n : Int) : St := { s with l := s.l.filter fun x => !decide (x.sess = n) }

structure Fine (s : St) : Prop where
  lo : 1 ≤ s.room
  hi : s.room ≤ 1000
  fits : (s.l.length : Int) ≤ s.room
  ok : ∀ x ∈ s.l, may x = true
  rises : Rises s.l
theorem Fine.made {n : Int} (h1 : 1 ≤ n) (h2 : n ≤ 1000) : Fine ⟨n, []⟩ := ⟨h1, h2, by simp only [List.length_nil]; omega, (fun x hx => by cases hx), List.Pairwise.nil⟩
theorem Fine.len {s : St} (h : Fine s) : s.l.length ≤ 1000 := by have h1 := h.fits; have h2 := h.hi; omega
theorem Fine.arm {s : St} (h : Fine s) (x : Wt) : Fine (arm s x).2 := by
  unfold Hq.arm
  split
  · rename_i hm
    split
    · exact h
    · rename_i hh
      split
      · exact h
      · rename_i hf
        refine ⟨h.lo, h.hi, ?_, fun y hy => ?_, ins_rises h.rises (by simpa using hh)⟩
        · simp only [ins_len]
          omega
        · rcases ins_mem.1 hy with rfl | hy
          · exact hm
          · exact h.ok y hy
  · exact h
theorem Fine.filter {s : St} (h : Fine s) (f : Wt → Bool) : Fine { s with l := s.l.filter f } := by
  refine ⟨h.lo, h.hi, ?_, fun y hy => h.ok y (List.mem_filter.1 hy).1, h.rises.sublist List.filter_sublist⟩
  have h1 := h.fits
  have h2 := List.length_filter_le f s.l
  show ((s.l.filter f).length : Int) ≤ s.room
  omega
theorem Fine.fired {s : St} (h : Fine s) (p : ByteArray) (c : Int) : Fine (fired s p c) := by
  unfold Hq.fired
  split
  · exact h.filter _
  · exact h
theorem Fine.drop {s : St} (h : Fine s) (n : Int) : Fine (drop s n) := h.filter _
theorem count_split (l : List Wt) (f : Wt → Bool) : (l.filter f).length + (l.filter fun x => !f x).length = l.length := by
  induction l with
  | nil => rfl
  | cons a l ih =>
    cases h : f a <;> simp [h] <;> omega
theorem fired_len (s : St) (p : ByteArray) (c : Int) : (events s p c).length + (fired s p c).l.length = s.l.length := by
  unfold events fired
  split
  · simp only [List.length_map]
    exact count_split _ _
  · simp
end Go.Proofs.YtjejpkognjedpaaDoor.Hq
