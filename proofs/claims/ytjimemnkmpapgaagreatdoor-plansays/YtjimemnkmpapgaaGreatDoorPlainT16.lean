/- Whose a path is: plain reckoning, no program. -/
import Derived.Test.YtjimemnkmpapgaaGreatDoorPlainK10
import Derived.Test.YtjimemnkmpapgaaGreatDoorLibP
import Derived.Test.YtjimemnkmpapgaaGreatDoorPl19
namespace Go.Proofs.YtjimemnkmpapgaaGreatDoor.Tb

/-- A first name that was given to a shard. -/
structure Mv where
  top : ByteArray
  shard : Int
structure St where
  shards : Int
  version : Int
  l : List Mv
def Rises (l : List Mv) : Prop := l.Pairwise fun a b => Kq.lt a.top b.top = true
def isName (s : ByteArray) : Bool := Pl.nameB s.data.toList
structure Ok (n : Int) (x : Mv) : Prop where
  nm : isName x.top = true
  lo : 0 ≤ x.shard
  hi : x.shard < n
/-- A Table that calls can have made, its version not above m. -/
structure Fine (m : Int) (s : St) : Prop where
  sh1 : 1 ≤ s.shards
  sh2 : s.shards ≤ 4
  v1 : 1 + (s.l.length : Int) ≤ s.version
  vm : s.version ≤ m
  v0 : s.l = [] → s.version = 1
  len : s.l.length ≤ 50
  rises : Rises s.l
  ok : ∀ x ∈ s.l, Ok s.shards x
def new (n : Int) : St := ⟨n, 1, []⟩
def has (l : List Mv) (t : ByteArray) : Bool := l.any fun y => decide (y.top = t)
def pos (l : List Mv) (t : ByteArray) : Nat := (l.takeWhile fun y => Kq.lt y.top t).length
def sum (xs : List UInt8) : Nat := xs.foldl (fun n c => n + c.toNat) 0
def own (l : List Mv) (t : ByteArray) : Option Int := (l.find? fun y => decide (y.top = t)).map Mv.shard
def whose (s : St) (t : ByteArray) : Int := (own s.l t).getD ((sum t.data.toList : Int) % s.shards)
def topT (p : ByteArray) : ByteArray := ⟨(Pl.top p.data.toList).toArray⟩
def of (s : St) (p : ByteArray) : Int := if Pl.goodB p.data.toList then whose s (topT p) else -1
def may (s : St) (t : ByteArray) (n : Int) : Bool := isName t && decide (0 ≤ n) && decide (n < s.shards)
def move (s : St) (t : ByteArray) (n : Int) : Int × St :=
  if may s t n then
    if has s.l t then (0, ⟨s.shards, s.version + 1, s.l.set (pos s.l t) ⟨t, n⟩⟩)
    else if 50 ≤ s.l.length then (2, s)
    else (0, ⟨s.shards, s.version + 1, s.l.take (pos s.l t) ++ ⟨t, n⟩ :: s.l.drop (pos s.l t)⟩)
  else (1, s)
/-- The places of those that are k's. -/
def placesA (f : ByteArray → Int) (k : Int) : Nat → List ByteArray → List Int
  | _, [] => []
  | i, p :: ps => if f p = k then (i : Int) :: placesA f k (i + 1) ps else placesA f k (i + 1) ps
def places (f : ByteArray → Int) (ps : List ByteArray) (k : Int) : List Int := placesA f k 0 ps

theorem may_iff {s : St} {t : ByteArray} {n : Int} : may s t n = true ↔ isName t = true ∧ 0 ≤ n ∧ n < s.shards := by
  unfold may
  simp [and_assoc]
theorem has_iff {l : List Mv} {t : ByteArray} : has l t = true ↔ ∃ x ∈ l, x.top = t := by
  unfold has
  rw [List.any_eq_true]
  simp
theorem pos_le : ∀ (l : List Mv) (t : ByteArray), pos l t ≤ l.length
  | [], _ => Nat.le_refl _
  | a :: l, t => by
    unfold pos
    rw [List.takeWhile_cons]
    split
    · have h := pos_le l t
      unfold pos at h
      simpa using h
    · simp
theorem pos_low : ∀ {l : List Mv} {t : ByteArray} {y : Mv} {j : Nat}, j < pos l t → l[j]? = some y → Kq.lt y.top t = true
  | [], _, _, _, h, _ => by simp [pos] at h
  | a :: l, t, y, 0, h, hy => by
    unfold pos at h
    rw [List.takeWhile_cons] at h
    split at h
    · rename_i ha
      simp at hy
      exact hy ▸ ha
    · simp at h
  | a :: l, t, y, j + 1, h, hy => by
    unfold pos at h
    rw [List.takeWhile_cons] at h
    split at h
    · exact pos_low (l := l) (t := t) (y := y) (j := j) (by simp at h; unfold pos; omega) (by simpa using hy)
    · simp at h
theorem pos_high : ∀ {l : List Mv} {t : ByteArray} {y : Mv} {j : Nat}, Rises l → pos l t ≤ j → l[j]? = some y → Kq.lt y.top t = false
  | [], _, _, _, _, _, hy => by simp at hy
  | a :: l, t, y, j, hr, h, hy => by
    obtain ⟨h1, h2⟩ := List.pairwise_cons.1 hr
    unfold pos at h
    rw [List.takeWhile_cons] at h
    split at h
    · rename_i ha
      cases j with
      | zero => simp at h
      | succ j => exact pos_high (l := l) (j := j) h2 (by simp at h; unfold pos; omega) (by simpa using hy)
    · rename_i ha
      have ha' : Kq.lt a.top t = false := by simpa using ha
      cases j with
      | zero => simp at hy; exact hy ▸ ha'
      | succ j =>
        have hm : y ∈ l := List.mem_of_getElem? (i := j) (by simpa using hy)
        have hay := h1 y hm
        cases e : Kq.lt y.top t with
        | false => rfl
        | true => rw [Kq.lt_trans hay e] at ha'; cases ha'
theorem rise_lt : ∀ {l : List Mv} {i j : Nat} {x y : Mv}, Rises l → l[i]? = some x → l[j]? = some y → i < j → Kq.lt x.top y.top = true
  | l, i, j, x, y, hr, hx, hy, hij => by
    obtain ⟨hi, e1⟩ := List.getElem?_eq_some_iff.1 hx
    obtain ⟨hj, e2⟩ := List.getElem?_eq_some_iff.1 hy
    have := List.pairwise_iff_getElem.1 hr i j hi hj hij
    rw [e1, e2] at this
    exact this
/-- A first name stands but once. -/
theorem rise_inj {l : List Mv} {x y : Mv} (hr : Rises l) (hx : x ∈ l) (hy : y ∈ l) (h : x.top = y.top) : x = y := by
  obtain ⟨i, hi⟩ := List.mem_iff_getElem?.1 hx
  obtain ⟨j, hj⟩ := List.mem_iff_getElem?.1 hy
  rcases Nat.lt_trichotomy i j with k | k | k
  · have := rise_lt hr hi hj k
    rw [h, Kq.lt_irrefl] at this
    cases this
  · subst k
    rw [hi] at hj
    exact Option.some.inj hj
  · have := rise_lt hr hj hi k
    rw [h, Kq.lt_irrefl] at this
    cases this
theorem pos_has {l : List Mv} {t : ByteArray} (hr : Rises l) : has l t = true ↔ ∃ x, l[pos l t]? = some x ∧ x.top = t := by
  rw [has_iff]
  constructor
  · rintro ⟨x, hx, e⟩
    obtain ⟨j, hj⟩ := List.mem_iff_getElem?.1 hx
    have h1 : ¬ j < pos l t := fun k => by have := pos_low k hj; rw [e, Kq.lt_irrefl] at this; cases this
    have hjl := (List.getElem?_eq_some_iff.1 hj).1
    obtain ⟨y, hy⟩ : ∃ y, l[pos l t]? = some y := ⟨l[pos l t]'(by omega), List.getElem?_eq_getElem _⟩
    have h2 := pos_high hr (Nat.le_refl _) hy
    rcases Nat.lt_or_ge (pos l t) j with h3 | h3
    · have := rise_lt hr hy hj h3
      rw [e, h2] at this
      cases this
    · have e2 : pos l t = j := by omega
      rw [← e2, hy] at hj
      exact ⟨y, hy, by rw [Option.some.inj hj]; exact e⟩
  · rintro ⟨x, hx, e⟩
    exact ⟨x, List.mem_of_getElem? hx, e⟩
theorem own_iff {l : List Mv} {t : ByteArray} {n : Int} (hr : Rises l) : own l t = some n ↔ (⟨t, n⟩ : Mv) ∈ l := by
  unfold own
  constructor
  · intro h
    obtain ⟨x, hx, rfl⟩ := Option.map_eq_some_iff.1 h
    have h1 := List.mem_of_find?_eq_some hx
    have h2 := List.find?_some hx
    have h3 : x.top = t := by simpa using h2
    subst h3
    exact h1
  · intro h
    cases e : l.find? fun y => decide (y.top = t) with
    | none =>
      have := List.find?_eq_none.1 e _ h
      simp at this
    | some x =>
      have h1 := List.mem_of_find?_eq_some e
      have h2 := List.find?_some e
      have h3 : x.top = t := by simpa using h2
      rw [rise_inj hr h1 h h3]
      rfl
theorem own_at {l : List Mv} {t : ByteArray} {x : Mv} (hr : Rises l) (hx : l[pos l t]? = some x) (e : x.top = t) : own l t = some x.shard := by
  rw [own_iff hr]
  subst e
  exact List.mem_of_getElem? hx
theorem own_no {l : List Mv} {t : ByteArray} (h : has l t = false) : own l t = none := by
  unfold own
  rw [Option.map_eq_none_iff, List.find?_eq_none]
  intro x hx e
  have : has l t = true := has_iff.2 ⟨x, hx, by simpa using e⟩
  rw [h] at this
  cases this
theorem own_ok {m n : Int} {s : St} {t : ByteArray} (h : Fine m s) (e : own s.l t = some n) : 0 ≤ n ∧ n < s.shards := by
  have k := h.ok _ ((own_iff h.rises).1 e)
  exact ⟨k.lo, k.hi⟩
theorem whose_ok {m : Int} {s : St} (h : Fine m s) (t : ByteArray) : 0 ≤ whose s t ∧ whose s t < s.shards := by
  have h1 := h.sh1
  unfold whose
  cases e : own s.l t with
  | none => exact ⟨Int.emod_nonneg _ (by omega), Int.emod_lt_of_pos _ (by omega)⟩
  | some n => exact own_ok h e
theorem of_ok {m : Int} {s : St} (h : Fine m s) (p : ByteArray) : -1 ≤ of s p ∧ of s p < s.shards := by
  have h1 := h.sh1
  have h2 := whose_ok h (topT p)
  unfold of
  split <;> omega
theorem of_good {m : Int} {s : St} (h : Fine m s) {p : ByteArray} (hp : Pl.goodB p.data.toList = true) : 0 ≤ of s p ∧ of s p < s.shards := by
  unfold of
  rw [if_pos hp]
  exact whose_ok h _
theorem of_bad {s : St} {p : ByteArray} (hp : Pl.goodB p.data.toList = false) : of s p = -1 := by unfold of; rw [hp]; rfl

/-! What a move leaves. -/
theorem set_split {l : List Mv} {p : Nat} {x : Mv} (y : Mv) (hx : l[p]? = some x) : l.set p y = l.take p ++ y :: l.drop (p + 1) ∧ l = l.take p ++ x :: l.drop (p + 1) := by
  obtain ⟨hp, e⟩ := List.getElem?_eq_some_iff.1 hx
  refine ⟨by rw [List.set_eq_take_append_cons_drop, if_pos hp], ?_⟩
  rw [← e, ← List.drop_eq_getElem_cons hp, List.take_append_drop]
theorem Fine.mono {m m' : Int} {s : St} (h : Fine m s) (hm : m ≤ m') : Fine m' s := ⟨h.sh1, h.sh2, h.v1, by have := h.vm; omega, h.v0, h.len, h.rises, h.ok⟩
theorem Fine.new {n : Int} (h1 : 1 ≤ n) (h2 : n ≤ 4) : Fine 1 (new n) := ⟨h1, h2, by simp [Tb.new], by show (1 : Int) ≤ 1; decide, fun _ => rfl, by simp [Tb.new], List.Pairwise.nil, fun x hx => by cases hx⟩
theorem rises_set {l : List Mv} {t : ByteArray} {n : Int} {x : Mv} {p : Nat} (hr : Rises l) (hx : l[p]? = some x) (e : x.top = t) : Rises (l.set p ⟨t, n⟩) := by
  obtain ⟨h1, h2⟩ := set_split ⟨t, n⟩ hx
  rw [h1]
  unfold Rises at hr ⊢
  rw [h2] at hr
  rw [List.pairwise_append, List.pairwise_cons] at hr ⊢
  obtain ⟨a1, ⟨a2, a3⟩, a4⟩ := hr
  refine ⟨a1, ⟨fun y hy => by have := a2 y hy; rw [e] at this; exact this, a3⟩, fun y hy z hz => ?_⟩
  rcases List.mem_cons.1 hz with rfl | hz
  · have := a4 y hy x (by simp)
    rw [e] at this
    exact this
  · exact a4 y hy z (by simp [hz])
theorem rises_ins {l : List Mv} {t : ByteArray} {n : Int} (hr : Rises l) (h : has l t = false) : Rises (l.take (pos l t) ++ ⟨t, n⟩ :: l.drop (pos l t)) := by
  unfold Rises
  have hx : ∀ y ∈ l, y.top ≠ t := fun y hy e => by
    have := has_iff.2 ⟨y, hy, e⟩
    rw [h] at this
    cases this
  have hlow : ∀ y ∈ l.take (pos l t), Kq.lt y.top t = true := fun y hy => by
    obtain ⟨j, hj⟩ := List.mem_iff_getElem?.1 hy
    rw [List.getElem?_take] at hj
    split at hj
    · rename_i h
      exact pos_low h hj
    · cases hj
  have hhigh : ∀ y ∈ l.drop (pos l t), Kq.lt t y.top = true := fun y hy => by
    obtain ⟨j, hj⟩ := List.mem_iff_getElem?.1 hy
    rw [List.getElem?_drop] at hj
    have h1 := pos_high hr (Nat.le_add_right _ _) hj
    cases e : Kq.lt t y.top with
    | true => rfl
    | false => exact absurd (Kq.lt_total h1 e) (hx y (List.mem_of_getElem? hj))
  rw [List.pairwise_append]
  refine ⟨hr.sublist (List.take_sublist _ _), List.pairwise_cons.2 ⟨hhigh, hr.sublist (List.drop_sublist _ _)⟩, fun a ha b hb => ?_⟩
  rcases List.mem_cons.1 hb with rfl | hb
  · exact hlow a ha
  · exact Kq.lt_trans (hlow a ha) (hhigh b hb)
theorem move_no {s : St} {t : ByteArray} {n : Int} (h : may s t n = false) : move s t n = (1, s) := by unfold move; rw [h]; rfl
theorem move_at {s : St} {t : ByteArray} {n : Int} (h : may s t n = true) (k : has s.l t = true) : move s t n = (0, ⟨s.shards, s.version + 1, s.l.set (pos s.l t) ⟨t, n⟩⟩) := by unfold move; rw [h, k]; rfl
theorem move_full {s : St} {t : ByteArray} {n : Int} (h : may s t n = true) (k : has s.l t = false) (j : 50 ≤ s.l.length) : move s t n = (2, s) := by unfold move; rw [h, k, if_pos j]; rfl
theorem move_ins {s : St} {t : ByteArray} {n : Int} (h : may s t n = true) (k : has s.l t = false) (j : ¬ 50 ≤ s.l.length) : move s t n = (0, ⟨s.shards, s.version + 1, s.l.take (pos s.l t) ++ ⟨t, n⟩ :: s.l.drop (pos s.l t)⟩) := by unfold move; rw [h, k, if_neg j]; rfl
theorem Fine.move {m : Int} {s : St} (h : Fine m s) (t : ByteArray) (n : Int) : Fine (m + 1) (move s t n).2 := by
  have h1 := h.mono (show m ≤ m + 1 by omega)
  have v1 := h.v1
  have vm := h.vm
  cases e : may s t n with
  | false => rw [move_no e]; exact h1
  | true =>
    obtain ⟨e1, e2, e3⟩ := may_iff.1 e
    cases k : has s.l t with
    | true =>
      rw [move_at e k]
      obtain ⟨x, hx, hxt⟩ := (pos_has h.rises).1 k
      have hne : s.l ≠ [] := fun e => by rw [e] at hx; cases hx
      obtain ⟨g1, g2⟩ := set_split ⟨t, n⟩ hx
      refine ⟨h.sh1, h.sh2, by simp only [List.length_set]; omega, by simp only []; omega, fun e => ?_, by simp only [List.length_set]; exact h.len, rises_set h.rises hx hxt, fun y hy => ?_⟩
      · have := congrArg List.length e
        simp only [List.length_set, List.length_nil] at this
        exact absurd (List.length_eq_zero_iff.1 this) hne
      · rcases List.mem_or_eq_of_mem_set hy with hy | rfl
        · exact h.ok y hy
        · exact ⟨e1, e2, e3⟩
    | false =>
      by_cases j : 50 ≤ s.l.length
      · rw [move_full e k j]
        exact h1
      · rw [move_ins e k j]
        have hp := pos_le s.l t
        have hl : (s.l.take (pos s.l t) ++ (⟨t, n⟩ : Mv) :: s.l.drop (pos s.l t)).length = s.l.length + 1 := by
          rw [List.length_append, List.length_cons, List.length_take, List.length_drop]
          omega
        refine ⟨h.sh1, h.sh2, by simp only []; rw [hl]; omega, by simp only []; omega, fun e => ?_, by simp only []; rw [hl]; omega, rises_ins h.rises k, fun y hy => ?_⟩
        · have := congrArg List.length e
          simp only [] at this
          rw [hl] at this
          simp at this
        · rcases List.mem_append.1 hy with hy | hy
          · exact h.ok y (List.mem_of_mem_take hy)
          · rcases List.mem_cons.1 hy with rfl | hy
            · exact ⟨e1, e2, e3⟩
            · exact h.ok y (List.mem_of_mem_drop hy)
theorem move_shards (s : St) (t : ByteArray) (n : Int) : (move s t n).2.shards = s.shards := by
  unfold move
  split
  · split
    · rfl
    · split <;> rfl
  · rfl
/-- What was refused has changed nothing; what was not is counted. -/
theorem move_err (s : St) (t : ByteArray) (n : Int) : ((move s t n).1 = 0 ∧ (move s t n).2.version = s.version + 1) ∨ ((move s t n).1 ≠ 0 ∧ (move s t n).2 = s) := by
  unfold move
  split
  · split
    · exact Or.inl ⟨rfl, rfl⟩
    · split
      · exact Or.inr ⟨(show (2 : Int) ≠ 0 by decide), rfl⟩
      · exact Or.inl ⟨rfl, rfl⟩
  · exact Or.inr ⟨(show (1 : Int) ≠ 0 by decide), rfl⟩
/-- The first name is whose it was given to, the others are whose they were. -/
theorem own_move {m : Int} {s : St} {t : ByteArray} {n : Int} (h : Fine m s) (h0 : (move s t n).1 = 0) : may s t n = true ∧ own (move s t n).2.l t = some n ∧ ∀ u, u ≠ t → own (move s t n).2.l u = own s.l u := by
  have hf := (h.move t n).rises
  cases e : may s t n with
  | false => rw [move_no e] at h0; exact absurd h0 (show ¬ (1 : Int) = 0 by decide)
  | true =>
    refine ⟨rfl, ?_⟩
    cases k : has s.l t with
    | true =>
      rw [move_at e k] at hf ⊢
      obtain ⟨x, hx, hxt⟩ := (pos_has h.rises).1 k
      obtain ⟨g1, g2⟩ := set_split ⟨t, n⟩ hx
      refine ⟨(own_iff hf).2 ?_, fun u hu => Option.ext fun z => ?_⟩
      · show _ ∈ s.l.set _ _
        rw [g1]
        simp
      · rw [own_iff hf, own_iff h.rises]
        show _ ∈ s.l.set _ _ ↔ _
        rw [g1]
        conv => rhs; rw [g2]
        simp only [List.mem_append, List.mem_cons, Mv.mk.injEq]
        have n1 : ¬ (u = t ∧ z = n) := fun c => hu c.1
        have n2 : ¬ (⟨u, z⟩ : Mv) = x := fun c => hu (by rw [← hxt, ← c])
        simp [n1, n2]
    | false =>
      by_cases j : 50 ≤ s.l.length
      · rw [move_full e k j] at h0
        exact absurd h0 (show ¬ (2 : Int) = 0 by decide)
      · rw [move_ins e k j] at hf ⊢
        refine ⟨(own_iff hf).2 ?_, fun u hu => Option.ext fun z => ?_⟩
        · show _ ∈ s.l.take _ ++ _
          simp
        · rw [own_iff hf, own_iff h.rises]
          show _ ∈ s.l.take _ ++ _ ↔ _
          conv => rhs; rw [← List.take_append_drop (pos s.l t) s.l]
          simp only [List.mem_append, List.mem_cons, Mv.mk.injEq]
          have n1 : ¬ (u = t ∧ z = n) := fun c => hu c.1
          simp [n1]

/-! A path's first name. -/
theorem name_len {t : List UInt8} (h : Pl.nameB t = true) : 1 ≤ t.length ∧ t.length ≤ 40 := by
  unfold Pl.nameB at h
  simp only [Bool.and_eq_true, decide_eq_true_eq] at h
  exact ⟨h.1.1.1.1, h.1.1.1.2⟩
theorem names_one {t : List UInt8} (h : Pl.nameB t = true) : Pl.namesB [t] = true := by
  rw [Pl.namesB_rest (by simp) (by simp)]
  simp [h]
theorem good_one {t : List UInt8} (h : Pl.nameB t = true) : Pl.goodB (47 :: t) = true ∧ Pl.top (47 :: t) = t := by
  have e : Pl.of [t] = 47 :: t := by simp [Pl.of]
  have hl := name_len h
  have h2 : (Pl.of [t]).length ≤ 200 := by rw [e, List.length_cons]; omega
  refine ⟨(Pl.good_iff _).2 ⟨[t], names_one h, e.symm, by rw [← e]; exact h2⟩, ?_⟩
  unfold Pl.top
  rw [← e, Pl.parts_of (names_one h) h2]
  rfl
theorem join_one (t : List UInt8) : Pl.joinB [t] = Pl.nameB t := by
  unfold Pl.joinB
  rw [Pl.namesB_rest (by simp) (by simp)]
  cases h : Pl.nameB t with
  | false => simp [h]
  | true =>
    have e : Pl.of [t] = 47 :: t := by simp [Pl.of]
    rw [e, (good_one h).1]
    simp [h]
theorem good_two {t : List UInt8} (h : Pl.nameB t = true) : Pl.goodB (47 :: (t ++ [47, 120])) = true ∧ Pl.top (47 :: (t ++ [47, 120])) = t := by
  have e : Pl.of [t, [120]] = 47 :: (t ++ [47, 120]) := by simp [Pl.of]
  have hl := name_len h
  have h2 : (Pl.of [t, [120]]).length ≤ 200 := by rw [e, List.length_cons, List.length_append]; simp; omega
  have h1 : Pl.namesB [t, [120]] = true := by
    rw [Pl.namesB_rest (by simp) (by simp)]
    simp [h]
    decide
  refine ⟨(Pl.good_iff _).2 ⟨[t, [120]], h1, e.symm, by rw [← e]; exact h2⟩, ?_⟩
  unfold Pl.top
  rw [← e, Pl.parts_of h1 h2]
  rfl
theorem top_name {p : List UInt8} (h : Pl.goodB p = true) : Pl.nameB (Pl.top p) = true ∧ ∃ r, p = 47 :: (Pl.top p ++ r) := by
  obtain ⟨h1, h2, _⟩ := Pl.good_parts h
  unfold Pl.top
  cases e : Pl.parts p with
  | nil => rw [e] at h2; cases h2
  | cons a l =>
    rw [e] at h1 h2
    refine ⟨?_, Pl.of l, by rw [h1]; rfl⟩
    have := Pl.namesB_len h2
    rw [Pl.namesB_rest this.1 this.2] at h2
    simp at h2
    exact h2.1
theorem of_top {s : St} {p q : ByteArray} (hp : Pl.goodB p.data.toList = true) (hq : Pl.goodB q.data.toList = true) (h : Pl.top p.data.toList = Pl.top q.data.toList) : of s p = of s q := by
  unfold of topT
  rw [hp, hq, h]

/-! The places. -/
theorem placesA_snoc (f : ByteArray → Int) (k : Int) : ∀ (i : Nat) (ps : List ByteArray) (p : ByteArray), placesA f k i (ps ++ [p]) = placesA f k i ps ++ if f p = k then [((i + ps.length : Nat) : Int)] else []
  | i, [], p => by
    simp only [List.nil_append, placesA, List.length_nil, Nat.add_zero]
  | i, q :: ps, p => by
    have ih := placesA_snoc f k (i + 1) ps p
    simp only [List.cons_append, placesA, List.length_cons]
    rw [ih, show i + 1 + ps.length = i + (ps.length + 1) by omega]
    split <;> rfl
theorem placesA_mem (f : ByteArray → Int) (k : Int) : ∀ (i : Nat) (ps : List ByteArray) (z : Int), z ∈ placesA f k i ps ↔ ∃ j p, ps[j]? = some p ∧ f p = k ∧ z = ((i + j : Nat) : Int)
  | i, [], z => by simp [placesA]
  | i, q :: ps, z => by
    have ih := placesA_mem f k (i + 1) ps z
    have key : (∃ j p, (q :: ps)[j]? = some p ∧ f p = k ∧ z = ((i + j : Nat) : Int)) ↔ (f q = k ∧ z = (i : Int)) ∨ ∃ j p, ps[j]? = some p ∧ f p = k ∧ z = ((i + 1 + j : Nat) : Int) := by
      constructor
      · rintro ⟨j, p, h1, h2, h3⟩
        cases j with
        | zero => simp at h1; subst h1; exact Or.inl ⟨h2, by simpa using h3⟩
        | succ j => exact Or.inr ⟨j, p, by simpa using h1, h2, by rw [h3]; congr 1; omega⟩
      · rintro (⟨h1, h2⟩ | ⟨j, p, h1, h2, h3⟩)
        · exact ⟨0, q, rfl, h1, by simpa using h2⟩
        · exact ⟨j + 1, p, by simpa using h1, h2, by rw [h3]; congr 1; omega⟩
    rw [key, ← ih]
    show z ∈ (if f q = k then (i : Int) :: placesA f k (i + 1) ps else placesA f k (i + 1) ps) ↔ _
    split
    · rename_i h
      simp [h]
    · rename_i h
      simp [h]
theorem placesA_rises (f : ByteArray → Int) (k : Int) : ∀ (i : Nat) (ps : List ByteArray), (placesA f k i ps).Pairwise fun a b => a < b
  | _, [] => List.Pairwise.nil
  | i, q :: ps => by
    have ih := placesA_rises f k (i + 1) ps
    unfold placesA
    split
    · refine List.pairwise_cons.2 ⟨fun z hz => ?_, ih⟩
      obtain ⟨j, p, _, _, e⟩ := (placesA_mem f k (i + 1) ps z).1 hz
      omega
    · exact ih
theorem placesA_len (f : ByteArray → Int) (k : Int) : ∀ (i : Nat) (ps : List ByteArray), (placesA f k i ps).length ≤ ps.length
  | _, [] => Nat.le_refl _
  | i, q :: ps => by
    have ih := placesA_len f k (i + 1) ps
    unfold placesA
    split <;> simp <;> omega
theorem places_len (f : ByteArray → Int) (ps : List ByteArray) (k : Int) : (places f ps k).length ≤ ps.length := placesA_len f k 0 ps
theorem places_snoc (f : ByteArray → Int) (ps : List ByteArray) (p : ByteArray) (k : Int) : places f (ps ++ [p]) k = places f ps k ++ if f p = k then [(ps.length : Int)] else [] := by
  unfold places
  rw [placesA_snoc, Nat.zero_add]

/-! Bytes, and back. -/
def rec1 (x : Mv) : List UInt8 := Pk.txt x.top.data.toList ++ Pk.be8 x.shard
def flat (l : List Mv) : List UInt8 := l.flatMap rec1
def bytes (s : St) : List UInt8 := Pk.be8 s.shards ++ (Pk.be8 s.version ++ (Pk.be8 (s.l.length : Int) ++ flat s.l))
theorem flat_cons (x : Mv) (l : List Mv) : flat (x :: l) = Pk.txt x.top.data.toList ++ (Pk.be8 x.shard ++ flat l) := by
  unfold flat rec1
  simp
theorem flat_app (a b : List Mv) : flat (a ++ b) = flat a ++ flat b := by unfold flat; rw [List.flatMap_append]
theorem flat_len {n : Int} : ∀ {l : List Mv}, (∀ x ∈ l, Ok n x) → (flat l).length ≤ 56 * l.length
  | [], _ => Nat.le_refl _
  | x :: l, h => by
    have ih := flat_len (l := l) fun y hy => h y (by simp [hy])
    have k := (name_len (h x (by simp)).nm).2
    rw [flat_cons, List.length_append, List.length_append, List.length_cons]
    unfold Pk.txt
    rw [List.length_append, Pk.be8_len, Pk.be8_len]
    omega
theorem bytes_len {m : Int} {s : St} (h : Fine m s) : (bytes s).length ≤ 2824 := by
  have h1 := flat_len h.ok
  have h2 := h.len
  unfold bytes
  rw [List.length_append, List.length_append, List.length_append, Pk.be8_len, Pk.be8_len, Pk.be8_len]
  omega
/-- A text and a number. -/
def rd1 (m : Int) (xs : List UInt8) (bad : Bool) : Mv × List UInt8 × Bool :=
  (⟨⟨(Pk.rT 40 xs bad).1.toArray⟩, (Pk.rC m (Pk.rT 40 xs bad).2.1 (Pk.rT 40 xs bad).2.2).1⟩, (Pk.rC m (Pk.rT 40 xs bad).2.1 (Pk.rT 40 xs bad).2.2).2)
def okB (last : ByteArray) (x : Mv) : Bool := Kq.lt last x.top && isName x.top
def rdL (m : Int) : Nat → List Mv → ByteArray → List UInt8 → Bool → Option (List Mv × List UInt8 × Bool)
  | 0, acc, _, xs, bad => some (acc, xs, bad)
  | n + 1, acc, last, xs, bad => if okB last (rd1 m xs bad).1 then rdL m n (acc ++ [(rd1 m xs bad).1]) (rd1 m xs bad).1.top (rd1 m xs bad).2.1 (rd1 m xs bad).2.2 else none
def verB (v : Int) (n : Nat) : Bool := if n = 0 then decide (v = 1) else decide (1 + (n : Int) ≤ v) && decide (v ≤ 1099511627776)
def fin (n v : Int) : Option (List Mv × List UInt8 × Bool) → Option St
  | none => none
  | some (l, xs, bad) => if bad = false ∧ xs = [] ∧ verB v l.length = true then some ⟨n, v, l⟩ else none
def get3 (n v : Int) (xs : List UInt8) (bad : Bool) : Option St := fin n v (rdL (n - 1) (Pk.rC 50 xs bad).1.toNat [] ⟨#[]⟩ (Pk.rC 50 xs bad).2.1 (Pk.rC 50 xs bad).2.2)
def get (b : List UInt8) : Option St :=
  if (Pk.rC 4 b false).1 < 1 then none else get3 (Pk.rC 4 b false).1 (Pk.rI (Pk.rC 4 b false).2.1 (Pk.rC 4 b false).2.2).1 (Pk.rI (Pk.rC 4 b false).2.1 (Pk.rC 4 b false).2.2).2.1 (Pk.rI (Pk.rC 4 b false).2.1 (Pk.rC 4 b false).2.2).2.2
theorem okB_iff {last : ByteArray} {x : Mv} : okB last x = true ↔ Kq.lt last x.top = true ∧ isName x.top = true := by unfold okB; simp
theorem verB_iff {v : Int} {n : Nat} : verB v n = true ↔ (n = 0 → v = 1) ∧ (n ≠ 0 → 1 + (n : Int) ≤ v ∧ v ≤ 1099511627776) := by
  unfold verB
  split
  · rename_i h
    simp [h]
  · rename_i h
    simp [h]
theorem name_low {t : ByteArray} (h : isName t = true) : Kq.lt ⟨#[]⟩ t = true := by
  cases e : Kq.lt ⟨#[]⟩ t with
  | true => rfl
  | false =>
    have e2 : Kq.lt t ⟨#[]⟩ = false := by
      unfold Kq.lt
      have : (⟨#[]⟩ : ByteArray).toList = [] := by rw [ByteArray.toList_eq]
      rw [this]
      cases t.toList <;> rfl
    rw [Kq.lt_total e2 e] at h
    cases h
theorem rd1_flat {m : Int} {x : Mv} {r : List UInt8} (hl : x.top.data.toList.length ≤ 40) (h1 : 0 ≤ x.shard) (h2 : x.shard ≤ m) (h3 : x.shard ≤ 9223372036854775807) : rd1 m (Pk.txt x.top.data.toList ++ (Pk.be8 x.shard ++ r)) false = (x, r, false) := by
  unfold rd1
  rw [Pk.rT_txt 40 _ _ _ (by omega) (by omega)]
  simp only []
  rw [Pk.rC_be8 m _ _ _ h1 h3 h2]
theorem rdL_flat {n : Int} (hn : n ≤ 4) : ∀ (l acc : List Mv) (last : ByteArray) (r : List UInt8), Rises l → (∀ x ∈ l, Kq.lt last x.top = true) → (∀ x ∈ l, Ok n x) → rdL (n - 1) l.length acc last (flat l ++ r) false = some (acc ++ l, r, false)
  | [], acc, last, r, _, _, _ => by simp [rdL, flat]
  | x :: l, acc, last, r, hr, hb, ho => by
    have k := ho x (by simp)
    obtain ⟨h1, h2⟩ := List.pairwise_cons.1 hr
    have a1 := k.lo
    have a2 := k.hi
    have e := rd1_flat (m := n - 1) (x := x) (r := flat l ++ r) (name_len k.nm).2 a1 (by omega) (by omega)
    have hok : okB last x = true := okB_iff.2 ⟨hb x (by simp), k.nm⟩
    rw [flat_cons, List.append_assoc, List.append_assoc, List.length_cons, rdL, e]
    simp only [hok, if_true]
    rw [rdL_flat hn l (acc ++ [x]) x.top r h2 h1 (fun y hy => ho y (by simp [hy]))]
    simp
/-- What was written is read. -/
theorem get_bytes {m : Int} {s : St} (h : Fine m s) (hm : m ≤ 1099511627776) : get (bytes s) = some s := by
  have r1 := h.sh1
  have r2 := h.sh2
  have v1 := h.v1
  have vm := h.vm
  have hl := h.len
  have e1 : Pk.rC 4 (bytes s) false = (s.shards, Pk.be8 s.version ++ (Pk.be8 (s.l.length : Int) ++ flat s.l), false) := Pk.rC_be8 4 _ _ _ (by omega) (by omega) (by omega)
  unfold get
  rw [e1]
  simp only []
  rw [if_neg (by omega), Pk.rI_be8 _ _ _ (by omega) (by omega)]
  simp only []
  unfold get3
  rw [Pk.rC_be8 _ _ _ _ (by omega) (by omega) (by omega)]
  simp only [Int.toNat_natCast]
  have e2 := rdL_flat (n := s.shards) (by omega) s.l [] ⟨#[]⟩ [] h.rises (fun x hx => name_low (h.ok x hx).nm) h.ok
  rw [List.append_nil] at e2
  rw [e2]
  have e3 : verB s.version s.l.length = true := verB_iff.2 ⟨fun e => h.v0 (List.length_eq_zero_iff.1 e), fun _ => ⟨h.v1, by omega⟩⟩
  simp [fin, e3]
theorem rI_true {xs : List UInt8} : (Pk.rI xs true).2.2 = true := by unfold Pk.rI; split <;> rfl
theorem rC_true {m : Int} {xs : List UInt8} : (Pk.rC m xs true).2.2 = true := by
  unfold Pk.rC
  split
  · rfl
  · exact rI_true
theorem rT_true {m : Int} {xs : List UInt8} : (Pk.rT m xs true).2.2 = true := by
  unfold Pk.rT
  split
  · exact rC_true
  · rfl
theorem rdL_true {m : Int} : ∀ (n : Nat) (acc : List Mv) (last : ByteArray) (xs : List UInt8) {l : List Mv} {r : List UInt8} {bad : Bool}, rdL m n acc last xs true = some (l, r, bad) → bad = true
  | 0, acc, last, xs, l, r, bad, h => by
    simp [rdL] at h
    exact h.2.2
  | n + 1, acc, last, xs, l, r, bad, h => by
    rw [rdL] at h
    split at h
    · have e : (rd1 m xs true).2.2 = true := by unfold rd1; simp only []; rw [rT_true, rC_true]
      rw [e] at h
      exact rdL_true n _ _ _ h
    · cases h
theorem fin_true {m n v : Int} (k : Nat) (acc : List Mv) (last : ByteArray) (xs : List UInt8) : fin n v (rdL m k acc last xs true) = none := by
  cases e : rdL m k acc last xs true with
  | none => rfl
  | some t =>
    obtain ⟨l, ys, bad⟩ := t
    have := rdL_true k acc last xs e
    subst this
    simp [fin]
theorem rdL_len {m : Int} : ∀ (n : Nat) (acc : List Mv) (last : ByteArray) (xs : List UInt8) (bad : Bool) {l : List Mv} {r : List UInt8} {b : Bool}, rdL m n acc last xs bad = some (l, r, b) → l.length = acc.length + n
  | 0, acc, last, xs, bad, l, r, b, h => by
    simp [rdL] at h
    simp [h.1]
  | n + 1, acc, last, xs, bad, l, r, b, h => by
    rw [rdL] at h
    split at h
    · have := rdL_len n _ _ _ _ h
      simp at this
      omega
    · cases h
/-- A version that may not be. -/
theorem fin_ver {m n v : Int} (k : Nat) (last : ByteArray) (xs : List UInt8) (bad : Bool) (h : verB v k = false) : fin n v (rdL m k [] last xs bad) = none := by
  cases e : rdL m k [] last xs bad with
  | none => rfl
  | some t =>
    obtain ⟨l, ys, b⟩ := t
    have := rdL_len k [] last xs bad e
    rw [List.length_nil, Nat.zero_add] at this
    simp [fin, this, h]
theorem rdL_inv {m : Int} : ∀ (n : Nat) (acc : List Mv) (last : ByteArray) (xs : List UInt8) {l : List Mv} {r : List UInt8}, rdL m n acc last xs false = some (l, r, false) →
    ∃ t, l = acc ++ t ∧ t.length = n ∧ xs = flat t ++ r ∧ Rises t ∧ (∀ x ∈ t, Kq.lt last x.top = true ∧ Ok (m + 1) x)
  | 0, acc, last, xs, l, r, h => by
    simp [rdL] at h
    exact ⟨[], by simp [h.1], rfl, by simp [flat, h.2], List.Pairwise.nil, fun x hx => by cases hx⟩
  | n + 1, acc, last, xs, l, r, h => by
    rw [rdL] at h
    split at h
    · rename_i hok
      obtain ⟨o1, o2⟩ := okB_iff.1 hok
      cases e : (rd1 m xs false).2.2 with
      | true => rw [e] at h; cases rdL_true _ _ _ _ h
      | false =>
        rw [e] at h
        obtain ⟨t, ht1, ht2, ht3, ht4, ht5⟩ := rdL_inv n _ _ _ h
        obtain ⟨b2, e2, c1, c2⟩ := Rq.rC_inv (show (Pk.rC m (Pk.rT 40 xs false).2.1 (Pk.rT 40 xs false).2.2).2.2 = false from e)
        obtain ⟨_, e1, _⟩ := Rq.rT_inv b2
        refine ⟨(rd1 m xs false).1 :: t, by rw [ht1]; simp, by simp [ht2], ?_, List.pairwise_cons.2 ⟨fun x hx => (ht5 x hx).1, ht4⟩, fun x hx => ?_⟩
        · rw [flat_cons, List.append_assoc, List.append_assoc, ← ht3]
          exact e1.trans (congrArg _ e2)
        · rcases List.mem_cons.1 hx with rfl | hx
          · exact ⟨o1, o2, c1, (show (Pk.rC m (Pk.rT 40 xs false).2.1 (Pk.rT 40 xs false).2.2).1 < m + 1 by omega)⟩
          · have := ht5 x hx
            exact ⟨Kq.lt_trans o1 this.1, this.2⟩
    · cases h
theorem rC_bad0 {m : Int} {xs : List UInt8} {bad : Bool} (h : (Pk.rC m xs bad).2.2 = true) (h0 : bad = false) : (Pk.rC m xs bad).1 = 0 := by
  subst h0
  unfold Pk.rC at h ⊢
  split
  · rfl
  · rename_i hk
    rw [if_neg hk] at h
    unfold Pk.rI at h ⊢
    split
    · rename_i h8
      rw [if_pos h8] at h
      cases h
    · rfl
/-- What is read was written. -/
theorem get_inv {b : List UInt8} {s : St} (h : get b = some s) : Fine 1099511627776 s ∧ bytes s = b := by
  unfold get at h
  split at h
  · cases h
  · rename_i hr
    cases hb : (Pk.rC 4 b false).2.2 with
    | true => have := rC_bad0 hb rfl; omega
    | false =>
      obtain ⟨a1, a2, a3, a4⟩ := Rq.rC_inv hb
      generalize hC : Pk.rC 4 b false = C at *
      generalize hN : Pk.rI C.2.1 C.2.2 = N at *
      unfold get3 at h
      generalize hK : Pk.rC 50 N.2.1 N.2.2 = K at *
      cases hf : rdL (C.1 - 1) K.1.toNat [] ⟨#[]⟩ K.2.1 K.2.2 with
      | none => rw [hf] at h; cases h
      | some t =>
        obtain ⟨l, xs, bad⟩ := t
        rw [hf] at h
        simp only [fin] at h
        split at h
        · rename_i hbx
          obtain ⟨rfl, rfl, hv⟩ := hbx
          have hk2 : K.2.2 = false := by
            cases e : K.2.2 with
            | false => rfl
            | true => rw [e] at hf; cases rdL_true _ _ _ _ hf
          obtain ⟨b1, b2, b3, b4⟩ := Rq.rC_inv (m := 50) (ys := N.2.1) (bad := N.2.2) (by rw [hK]; exact hk2)
          rw [hK] at b2 b3 b4
          obtain ⟨f1, f2⟩ := Rq.rI_inv (ys := C.2.1) (bad := C.2.2) (by rw [hN]; exact b1)
          rw [hN] at f2
          rw [hk2] at hf
          obtain ⟨t, t1, t2, t3, t4, t5⟩ := rdL_inv _ _ _ _ hf
          simp only [List.nil_append, List.append_nil] at t1 t3
          subst t1
          obtain rfl := (Option.some.inj h)
          have hlen : ((l.length : Nat) : Int) = K.1 := by rw [t2]; omega
          obtain ⟨v1, v2⟩ := verB_iff.1 hv
          have hvv : 1 + (l.length : Int) ≤ N.1 ∧ N.1 ≤ 1099511627776 ∧ (l = [] → N.1 = 1) := by
            by_cases h0 : l.length = 0
            · have := v1 h0
              exact ⟨by omega, by omega, fun _ => this⟩
            · have := v2 h0
              exact ⟨this.1, this.2, fun e => absurd (by rw [e]; rfl) h0⟩
          refine ⟨⟨by simp only []; omega, a4, hvv.1, hvv.2.1, hvv.2.2, by simp only []; omega, t4, fun x hx => ?_⟩, ?_⟩
          · have := (t5 x hx).2
            rw [show C.1 - 1 + 1 = C.1 by omega] at this
            exact this
          · rw [a2, f2, b2, t3]
            unfold bytes
            simp [hlen]
        · cases h
/-- The reference counts up to 3 and holds it against the shards afterwards. -/
theorem rC_up {n : Int} {xs : List UInt8} {bad : Bool} (h2 : n ≤ 4) (h : (Pk.rC 3 xs bad).1 < n) : Pk.rC (n - 1) xs bad = Pk.rC 3 xs bad := by
  unfold Pk.rC at h ⊢
  split
  · rename_i hc
    split
    · rfl
    · rename_i hk
      rw [if_neg hk] at h
      omega
  · rename_i hc
    split
    · rename_i hk
      omega
    · rfl
theorem rC_out {n : Int} {xs : List UInt8} {bad : Bool} (h2 : n ≤ 4) (h : ¬ (Pk.rC 3 xs bad).1 < n ∨ (Pk.rC 3 xs bad).2.2 = true) (h1 : 1 ≤ n) (h0 : bad = true → xs = []) : Pk.rC (n - 1) xs bad = (0, [], true) := by
  unfold Pk.rC at h ⊢
  split
  · rfl
  · rename_i hc
    rw [if_neg (by omega)] at h
    rcases h with h | h
    · omega
    · unfold Pk.rI at h hc ⊢
      split
      · rename_i h8
        rw [if_pos h8] at h
        simp only [] at h
        rw [h0 h] at h8
        simp at h8
      · rfl
end Go.Proofs.YtjimemnkmpapgaaGreatDoor.Tb
