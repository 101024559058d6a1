/- Sessions, and their clock: plain reckoning, no program. -/
import Derived.Test.YtlabdhllindenaaPlain
import Derived.Test.YtlabdhllindenaaPlainX
namespace Go.Proofs.Ytlabdhllindenaa.Sq

/-- A session that lives. -/
structure One where
  id : Int
  span : Int
  till : Int
structure St where
  room : Int
  now : Int
  next : Int
  l : List One
def Rises (l : List One) : Prop := l.Pairwise fun a b => a.id < b.id
/-- One that may live at this time, below this number. -/
structure Ok (now next : Int) (x : One) : Prop where
  id1 : 1 ≤ x.id
  idn : x.id < next
  sp1 : 1 ≤ x.span
  spm : x.span ≤ 10000
  tn : now < x.till
  ts : x.till ≤ now + x.span
  st : x.span ≤ x.till
/-- Sessions that calls can have made, the time and the next number not above m. -/
structure Fine (m : Int) (s : St) : Prop where
  room1 : 1 ≤ s.room
  room2 : s.room ≤ 64
  now0 : 0 ≤ s.now
  nowm : s.now ≤ m
  next1 : 1 ≤ s.next
  nextm : s.next ≤ m
  len : (s.l.length : Int) ≤ s.room
  rises : Rises s.l
  ok : ∀ x ∈ s.l, Ok s.now s.next x
def new (room : Int) : St := ⟨room, 0, 1, []⟩
def has (l : List One) (id : Int) : Bool := l.any fun x => decide (x.id = id)
def op (s : St) (span : Int) : Int × Int × St :=
  if span < 1 ∨ 10000 < span then (0, 1, s) else if s.room ≤ (s.l.length : Int) then (0, 9, s) else (s.next, 0, ⟨s.room, s.now, s.next + 1, s.l ++ [⟨s.next, span, s.now + span⟩]⟩)
def renew (now : Int) (x : One) : One := ⟨x.id, x.span, now + x.span⟩
def touch (s : St) (id : Int) : Int × St := if has s.l id then (0, ⟨s.room, s.now, s.next, s.l.map fun x => if x.id = id then renew s.now x else x⟩) else (11, s)
def close (s : St) (id : Int) : Int × St := if has s.l id then (0, ⟨s.room, s.now, s.next, s.l.filter fun x => !decide (x.id = id)⟩) else (11, s)
/-- Whose time is over. -/
def ends (now : Int) (x : One) : Bool := decide (x.till ≤ now)
def over (s : St) : List Int := (s.l.filter (ends (s.now + 1))).map One.id
def tick (s : St) : St := ⟨s.room, s.now + 1, s.next, s.l.filter fun x => !ends (s.now + 1) x⟩
def all (s : St) : List Int := s.l.map One.id
def three (x : One) : List Int := [x.id, x.span, x.till]
def nums (s : St) : List Int := [s.room, s.now, s.next, (s.l.length : Int)] ++ s.l.flatMap three
def bytes (s : St) : List UInt8 := (nums s).flatMap Pk.be8

theorem has_iff {l : List One} {id : Int} : has l id = true ↔ ∃ x ∈ l, x.id = id := by
  unfold has
  rw [List.any_eq_true]
  simp
theorem Rises.filter {l : List One} (h : Rises l) (p : One → Bool) : Rises (l.filter p) := List.Pairwise.sublist List.filter_sublist h
theorem Fine.mono {m m' : Int} {s : St} (h : Fine m s) (hm : m ≤ m') : Fine m' s := ⟨h.room1, h.room2, h.now0, by have := h.nowm; omega, h.next1, by have := h.nextm; omega, h.len, h.rises, h.ok⟩
theorem Fine.len64 {m : Int} {s : St} (h : Fine m s) : s.l.length ≤ 64 := by have := h.len; have := h.room2; omega
theorem Fine.new {room : Int} (h1 : 1 ≤ room) (h2 : room ≤ 64) : Fine 1 (new room) := ⟨h1, h2, Int.le_refl 0, by show (0 : Int) ≤ 1; decide, Int.le_refl 1, Int.le_refl 1, by simp [Sq.new]; omega, List.Pairwise.nil, fun x hx => by cases hx⟩
theorem Fine.op {m : Int} {s : St} (h : Fine m s) (span : Int) : Fine (m + 1) (op s span).2.2 := by
  have h1 := h.mono (show m ≤ m + 1 by omega)
  unfold Sq.op
  split
  · exact h1
  · split
    · exact h1
    · have n1 := h.nextm
      have n2 := h.next1
      refine ⟨h.room1, h.room2, h.now0, h1.nowm, by simp only []; omega, by simp only []; omega, by simp; omega, ?_, fun x hx => ?_⟩
      · refine List.pairwise_append.2 ⟨h.rises, List.pairwise_singleton _ _, fun a ha b hb => ?_⟩
        simp at hb
        subst hb
        exact (h.ok a ha).idn
      · rcases List.mem_append.1 hx with hx | hx
        · have k := h.ok x hx
          exact ⟨k.id1, by have := k.idn; simp only []; omega, k.sp1, k.spm, k.tn, k.ts, k.st⟩
        · simp at hx
          subst hx
          have := h.now0
          exact ⟨by simp only []; omega, by simp only []; omega, by simp only []; omega, by simp only []; omega, by simp only []; omega, by simp only []; omega, by simp only []; omega⟩
theorem Fine.touch {m : Int} {s : St} (h : Fine m s) (id : Int) : Fine m (touch s id).2 := by
  unfold Sq.touch
  split
  · have key : ∀ x : One, (if x.id = id then renew s.now x else x).id = x.id := fun x => by split <;> rfl
    refine ⟨h.room1, h.room2, h.now0, h.nowm, h.next1, h.nextm, by simp only [List.length_map]; exact h.len, ?_, fun x hx => ?_⟩
    · refine List.pairwise_map.2 (h.rises.imp ?_)
      intro a b hab
      rw [key, key]
      exact hab
    · obtain ⟨y, hy, rfl⟩ := List.mem_map.1 hx
      have k := h.ok y hy
      have := h.now0
      split
      · exact ⟨k.id1, k.idn, k.sp1, k.spm, by have := k.sp1; simp only [renew]; omega, by simp only [renew]; omega, by simp only [renew]; omega⟩
      · exact k
  · exact h
theorem Fine.close {m : Int} {s : St} (h : Fine m s) (id : Int) : Fine m (close s id).2 := by
  unfold Sq.close
  split
  · refine ⟨h.room1, h.room2, h.now0, h.nowm, h.next1, h.nextm, ?_, h.rises.filter _, fun x hx => h.ok x (List.mem_filter.1 hx).1⟩
    have h1 := List.length_filter_le (fun x => !decide (x.id = id)) s.l
    have := h.len
    simp only []
    omega
  · exact h
theorem Fine.tick {m : Int} {s : St} (h : Fine m s) : Fine (m + 1) (tick s) := by
  have h1 := List.length_filter_le (fun x => !ends (s.now + 1) x) s.l
  have h2 := h.len
  have h3 := h.now0
  have h4 := h.nowm
  have h5 := h.nextm
  refine ⟨h.room1, h.room2, by simp only [Sq.tick]; omega, by simp only [Sq.tick]; omega, h.next1, by simp only [Sq.tick]; omega, by simp only [Sq.tick]; omega, h.rises.filter _, fun x hx => ?_⟩
  have hm := List.mem_filter.1 hx
  have k := h.ok x hm.1
  have ht : ¬ x.till ≤ s.now + 1 := by simpa [ends] using hm.2
  exact ⟨k.id1, k.idn, k.sp1, k.spm, by simp only [Sq.tick]; omega, by have := k.ts; simp only [Sq.tick]; omega, k.st⟩

/-! Where one stands. -/
def pos (l : List One) (id : Int) : Nat := (l.takeWhile fun y => decide (y.id < id)).length
theorem pos_le : ∀ (l : List One) (x : Int), pos l x ≤ l.length
  | [], _ => Nat.le_refl _
  | a :: l, x => by
    unfold pos
    rw [List.takeWhile_cons]
    split
    · have h := pos_le l x
      unfold pos at h
      simpa using h
    · simp
theorem pos_low : ∀ {l : List One} {x : Int} {y : One} {j : Nat}, j < pos l x → l[j]? = some y → y.id < x
  | [], _, _, _, h, _ => by simp [pos] at h
  | a :: l, x, y, 0, h, hy => by
    unfold pos at h
    rw [List.takeWhile_cons] at h
    split at h
    · rename_i ha
      simp at hy
      simpa [hy] using ha
    · simp at h
  | a :: l, x, y, j + 1, h, hy => by
    unfold pos at h
    rw [List.takeWhile_cons] at h
    split at h
    · exact pos_low (l := l) (x := x) (y := y) (j := j) (by simp at h; unfold pos; omega) (by simpa using hy)
    · simp at h
theorem pos_high : ∀ {l : List One} {x : Int} {y : One} {j : Nat}, Rises l → pos l x ≤ j → l[j]? = some y → x ≤ y.id
  | [], _, _, _, _, _, hy => by simp at hy
  | a :: l, x, y, j, hr, h, hy => by
    obtain ⟨h1, h2⟩ := List.pairwise_cons.1 hr
    unfold pos at h
    rw [List.takeWhile_cons] at h
    split at h
    · rename_i ha
      cases j with
      | zero => simp at h
      | succ j => exact pos_high (l := l) (j := j) h2 (by simp at h; unfold pos; omega) (by simpa using hy)
    · rename_i ha
      have ha' : ¬ a.id < x := by simpa using ha
      cases j with
      | zero => simp at hy; subst hy; omega
      | succ j =>
        have hm : y ∈ l := List.mem_of_getElem? (i := j) (by simpa using hy)
        have hay := h1 y hm
        omega
/-- Where the numbers rise, two at different places are different. -/
theorem rise_lt : ∀ {l : List One} {i j : Nat} {x y : One}, Rises l → l[i]? = some x → l[j]? = some y → i < j → x.id < y.id
  | l, i, j, x, y, hr, hx, hy, hij => by
    obtain ⟨hi, e1⟩ := List.getElem?_eq_some_iff.1 hx
    obtain ⟨hj, e2⟩ := List.getElem?_eq_some_iff.1 hy
    have := List.pairwise_iff_getElem.1 hr i j hi hj hij
    rw [e1, e2] at this
    exact this
theorem pos_has {l : List One} {id : Int} (hr : Rises l) : has l id = true ↔ ∃ x, l[pos l id]? = some x ∧ x.id = id := by
  rw [has_iff]
  constructor
  · rintro ⟨x, hx, e⟩
    obtain ⟨j, hj⟩ := List.mem_iff_getElem?.1 hx
    have h1 : ¬ j < pos l id := fun k => by have := pos_low k hj; omega
    have hjl := (List.getElem?_eq_some_iff.1 hj).1
    obtain ⟨y, hy⟩ : ∃ y, l[pos l id]? = some y := ⟨l[pos l id]'(by omega), List.getElem?_eq_getElem _⟩
    have h2 := pos_high hr (Nat.le_refl _) hy
    rcases Nat.lt_or_ge (pos l id) j with h3 | h3
    · have := rise_lt hr hy hj h3
      omega
    · have e2 : pos l id = j := by omega
      rw [← e2, hy] at hj
      exact ⟨y, hy, by rw [Option.some.inj hj]; exact e⟩
  · rintro ⟨x, hx, e⟩
    exact ⟨x, List.mem_of_getElem? hx, e⟩
theorem map_at {l : List One} {p : Nat} {x : One} {f : One → One} (hr : Rises l) (hx : l[p]? = some x) : (l.map fun y => if y.id = x.id then f y else y) = l.set p (f x) := by
  apply List.ext_getElem?
  intro j
  rw [List.getElem?_map, List.getElem?_set]
  by_cases hj : p = j
  · subst hj
    have hp := (List.getElem?_eq_some_iff.1 hx).1
    rw [hx]
    simp [hp]
  · simp only [hj, if_false]
    cases hy : l[j]? with
    | none => rfl
    | some y =>
      have : y.id ≠ x.id := by
        rcases Nat.lt_or_gt_of_ne hj with h | h
        · have := rise_lt hr hx hy h
          omega
        · have := rise_lt hr hy hx h
          omega
      simp [this]
theorem filter_at : ∀ {l : List One} {p : Nat} {x : One}, Rises l → l[p]? = some x → (l.filter fun y => !decide (y.id = x.id)) = l.take p ++ l.drop (p + 1)
  | [], p, x, _, hx => by simp at hx
  | a :: l, 0, x, hr, hx => by
    simp at hx
    subst hx
    obtain ⟨h1, h2⟩ := List.pairwise_cons.1 hr
    simp only [List.filter_cons, decide_true, Bool.not_true, Bool.false_eq_true, if_false, List.take_zero, List.nil_append, Nat.zero_add, List.drop_one, List.tail_cons]
    refine List.filter_eq_self.2 (fun y hy => ?_)
    have := h1 y hy
    simp
    omega
  | a :: l, p + 1, x, hr, hx => by
    obtain ⟨h1, h2⟩ := List.pairwise_cons.1 hr
    have hx' : l[p]? = some x := by simpa using hx
    have hlt := h1 x (List.mem_of_getElem? hx')
    have ih := filter_at h2 hx'
    have hne : ¬ a.id = x.id := by omega
    simp only [List.filter_cons, hne, decide_false, Bool.not_false, if_true, ih, List.take_succ_cons, List.drop_succ_cons, List.cons_append]
theorem touch_at {s : St} {p : Nat} {x : One} (hr : Rises s.l) (hx : s.l[p]? = some x) : touch s x.id = (0, ⟨s.room, s.now, s.next, s.l.set p (renew s.now x)⟩) := by
  unfold touch
  rw [if_pos (has_iff.2 ⟨x, List.mem_of_getElem? hx, rfl⟩), map_at hr hx]
theorem close_at {s : St} {p : Nat} {x : One} (hr : Rises s.l) (hx : s.l[p]? = some x) : close s x.id = (0, ⟨s.room, s.now, s.next, s.l.take p ++ s.l.drop (p + 1)⟩) := by
  unfold close
  rw [if_pos (has_iff.2 ⟨x, List.mem_of_getElem? hx, rfl⟩), filter_at hr hx]
theorem touch_no {s : St} {id : Int} (h : has s.l id = false) : touch s id = (11, s) := by unfold touch; rw [h]; rfl
theorem close_no {s : St} {id : Int} (h : has s.l id = false) : close s id = (11, s) := by unfold close; rw [h]; rfl

/-! Bytes, and back. -/
/-- Three numbers. -/
def rd1 (xs : List UInt8) (bad : Bool) : One × List UInt8 × Bool :=
  (⟨(Pk.rI xs bad).1, (Pk.rI (Pk.rI xs bad).2.1 (Pk.rI xs bad).2.2).1, (Pk.rI (Pk.rI (Pk.rI xs bad).2.1 (Pk.rI xs bad).2.2).2.1 (Pk.rI (Pk.rI xs bad).2.1 (Pk.rI xs bad).2.2).2.2).1⟩,
   (Pk.rI (Pk.rI (Pk.rI xs bad).2.1 (Pk.rI xs bad).2.2).2.1 (Pk.rI (Pk.rI xs bad).2.1 (Pk.rI xs bad).2.2).2.2).2)
def okB (now next last : Int) (x : One) : Bool := decide (last < x.id ∧ x.id < next ∧ 1 ≤ x.span ∧ x.span ≤ 10000 ∧ now < x.till ∧ x.till ≤ now + x.span ∧ x.span ≤ x.till)
def rdL (now next : Int) : Nat → List One → Int → List UInt8 → Bool → Option (List One × List UInt8 × Bool)
  | 0, acc, _, xs, bad => some (acc, xs, bad)
  | n + 1, acc, last, xs, bad => if okB now next last (rd1 xs bad).1 then rdL now next n (acc ++ [(rd1 xs bad).1]) (rd1 xs bad).1.id (rd1 xs bad).2.1 (rd1 xs bad).2.2 else none
/-- The first three numbers, and how many. -/
def clockB (now next : Int) : Bool := decide (0 ≤ now ∧ now ≤ 1099511627776 ∧ 1 ≤ next ∧ next ≤ 1099511627776)
def fin (room now next : Int) : Option (List One × List UInt8 × Bool) → Option St
  | none => none
  | some (l, xs, bad) => if bad = false ∧ xs = [] then some ⟨room, now, next, l⟩ else none
def get4 (room now next : Int) (xs : List UInt8) (bad : Bool) : Option St :=
  if clockB now next then fin room now next (rdL now next (Pk.rC room xs bad).1.toNat [] 0 (Pk.rC room xs bad).2.1 (Pk.rC room xs bad).2.2) else none
def get (b : List UInt8) : Option St :=
  if (Pk.rC 64 b false).1 < 1 then none else
    get4 (Pk.rC 64 b false).1 (Pk.rI (Pk.rC 64 b false).2.1 (Pk.rC 64 b false).2.2).1 (Pk.rI (Pk.rI (Pk.rC 64 b false).2.1 (Pk.rC 64 b false).2.2).2.1 (Pk.rI (Pk.rC 64 b false).2.1 (Pk.rC 64 b false).2.2).2.2).1
      (Pk.rI (Pk.rI (Pk.rC 64 b false).2.1 (Pk.rC 64 b false).2.2).2.1 (Pk.rI (Pk.rC 64 b false).2.1 (Pk.rC 64 b false).2.2).2.2).2.1
      (Pk.rI (Pk.rI (Pk.rC 64 b false).2.1 (Pk.rC 64 b false).2.2).2.1 (Pk.rI (Pk.rC 64 b false).2.1 (Pk.rC 64 b false).2.2).2.2).2.2
theorem okB_iff {now next last : Int} {x : One} : okB now next last x = true ↔ (last < x.id ∧ x.id < next ∧ 1 ≤ x.span ∧ x.span ≤ 10000 ∧ now < x.till ∧ x.till ≤ now + x.span ∧ x.span ≤ x.till) := by unfold okB; rw [decide_eq_true_eq]
theorem clockB_iff {now next : Int} : clockB now next = true ↔ (0 ≤ now ∧ now ≤ 1099511627776 ∧ 1 ≤ next ∧ next ≤ 1099511627776) := by unfold clockB; rw [decide_eq_true_eq]
def flat (l : List One) : List UInt8 := (l.flatMap three).flatMap Pk.be8
theorem flat_cons (x : One) (l : List One) : flat (x :: l) = Pk.be8 x.id ++ (Pk.be8 x.span ++ (Pk.be8 x.till ++ flat l)) := by
  unfold flat three
  simp
theorem rd1_flat {x : One} {r : List UInt8} (h1 : Rq.Rng x.id) (h2 : Rq.Rng x.span) (h3 : Rq.Rng x.till) : rd1 (Pk.be8 x.id ++ (Pk.be8 x.span ++ (Pk.be8 x.till ++ r))) false = (x, r, false) := by
  unfold rd1
  rw [Pk.rI_be8 _ _ _ h1.1 h1.2]
  simp only []
  rw [Pk.rI_be8 _ _ _ h2.1 h2.2]
  simp only []
  rw [Pk.rI_be8 _ _ _ h3.1 h3.2]
theorem rdL_flat {now next : Int} (hn : now ≤ 1099511627776) (hx : next ≤ 1099511627776) (h0 : 0 ≤ now) : ∀ (l acc : List One) (last : Int) (r : List UInt8), 0 ≤ last → Rises l → (∀ x ∈ l, last < x.id) → (∀ x ∈ l, Ok now next x) → rdL now next l.length acc last (flat l ++ r) false = some (acc ++ l, r, false)
  | [], acc, last, r, _, _, _, _ => by simp [rdL, flat]
  | x :: l, acc, last, r, hl, hr, hb, ho => by
    have k := ho x (by simp)
    obtain ⟨h1, h2⟩ := List.pairwise_cons.1 hr
    have a1 := k.id1
    have a2 := k.idn
    have a3 := k.sp1
    have a4 := k.spm
    have a5 := k.tn
    have a6 := k.ts
    have e := rd1_flat (x := x) (r := flat l ++ r) ⟨by omega, by omega⟩ ⟨by omega, by omega⟩ ⟨by omega, by omega⟩
    have hok : okB now next last x = true := okB_iff.2 ⟨hb x (by simp), k.idn, k.sp1, k.spm, k.tn, k.ts, k.st⟩
    rw [flat_cons, List.append_assoc, List.append_assoc, List.append_assoc, List.length_cons, rdL, e]
    simp only [hok, if_true]
    rw [rdL_flat hn hx h0 l (acc ++ [x]) x.id r (by omega) h2 h1 (fun y hy => ho y (by simp [hy]))]
    simp
/-- What was written is read. -/
theorem get_bytes {m : Int} {s : St} (h : Fine m s) (hm : m ≤ 1099511627776) : get (bytes s) = some s := by
  have r1 := h.room1
  have r2 := h.room2
  have n0 := h.now0
  have nm := h.nowm
  have x1 := h.next1
  have xm := h.nextm
  have hl := h.len
  have eb : bytes s = Pk.be8 s.room ++ (Pk.be8 s.now ++ (Pk.be8 s.next ++ (Pk.be8 (s.l.length : Int) ++ flat s.l))) := by
    unfold bytes nums flat
    simp
  have e1 : Pk.rC 64 (bytes s) false = (s.room, Pk.be8 s.now ++ (Pk.be8 s.next ++ (Pk.be8 (s.l.length : Int) ++ flat s.l)), false) := by rw [eb]; exact Pk.rC_be8 64 _ _ _ (by omega) (by omega) (by omega)
  unfold get
  rw [e1]
  simp only []
  rw [if_neg (by omega), Pk.rI_be8 _ _ _ (by omega) (by omega)]
  simp only []
  rw [Pk.rI_be8 _ _ _ (by omega) (by omega)]
  simp only []
  unfold get4
  rw [if_pos (clockB_iff.2 ⟨by omega, by omega, by omega, by omega⟩), Pk.rC_be8 _ _ _ _ (by omega) (by omega) (by omega)]
  simp only [Int.toNat_natCast]
  have e2 := rdL_flat (now := s.now) (next := s.next) (by omega) (by omega) (by omega) s.l [] 0 [] (by omega) h.rises (fun x hx => by have := (h.ok x hx).id1; omega) h.ok
  rw [List.append_nil] at e2
  rw [e2]
  simp [fin]
theorem rI_true {xs : List UInt8} : (Pk.rI xs true).2.2 = true := by unfold Pk.rI; split <;> rfl
theorem rdL_true {now next : Int} : ∀ (n : Nat) (acc : List One) (last : Int) (xs : List UInt8) {l : List One} {r : List UInt8} {bad : Bool}, rdL now next n acc last xs true = some (l, r, bad) → bad = true
  | 0, acc, last, xs, l, r, bad, h => by
    simp [rdL] at h
    exact h.2.2
  | n + 1, acc, last, xs, l, r, bad, h => by
    rw [rdL] at h
    split at h
    · have e : (rd1 xs true).2.2 = true := by unfold rd1; simp only []; rw [rI_true, rI_true, rI_true]
      rw [e] at h
      exact rdL_true n _ _ _ h
    · cases h
theorem rdL_inv {now next : Int} : ∀ (n : Nat) (acc : List One) (last : Int) (xs : List UInt8) {l : List One} {r : List UInt8}, rdL now next n acc last xs false = some (l, r, false) → 0 ≤ last →
    ∃ t, l = acc ++ t ∧ t.length = n ∧ xs = flat t ++ r ∧ Rises t ∧ (∀ x ∈ t, last < x.id ∧ Ok now next x)
  | 0, acc, last, xs, l, r, h, _ => by
    simp [rdL] at h
    exact ⟨[], by simp [h.1], rfl, by simp [flat, h.2], List.Pairwise.nil, fun x hx => by cases hx⟩
  | n + 1, acc, last, xs, l, r, h, h0 => by
    rw [rdL] at h
    split at h
    · rename_i hok
      obtain ⟨o1, o2, o3, o4, o5, o6, o7⟩ := okB_iff.1 hok
      cases e : (rd1 xs false).2.2 with
      | true => rw [e] at h; cases rdL_true _ _ _ _ h
      | false =>
        rw [e] at h
        obtain ⟨t, ht1, ht2, ht3, ht4, ht5⟩ := rdL_inv n _ _ _ h (by omega)
        refine ⟨(rd1 xs false).1 :: t, by rw [ht1]; simp, by simp [ht2], ?_, List.pairwise_cons.2 ⟨fun x hx => (ht5 x hx).1, ht4⟩, fun x hx => ?_⟩
        · obtain ⟨b3, e3⟩ := Rq.rI_inv (show (Pk.rI (Pk.rI (Pk.rI xs false).2.1 (Pk.rI xs false).2.2).2.1 (Pk.rI (Pk.rI xs false).2.1 (Pk.rI xs false).2.2).2.2).2.2 = false from e)
          obtain ⟨b2, e2⟩ := Rq.rI_inv b3
          obtain ⟨b1, e1⟩ := Rq.rI_inv b2
          rw [flat_cons, List.append_assoc, List.append_assoc, List.append_assoc, ← ht3]
          exact e1.trans (congrArg _ (e2.trans (congrArg _ e3)))
        · rcases List.mem_cons.1 hx with rfl | hx
          · exact ⟨o1, ⟨by omega, o2, o3, o4, o5, o6, o7⟩⟩
          · have := ht5 x hx
            exact ⟨by omega, this.2⟩
    · cases h
/-- What is read was written. -/
theorem get_inv {b : List UInt8} {s : St} (h : get b = some s) : Fine 1099511627776 s ∧ bytes s = b := by
  unfold get at h
  split at h
  · cases h
  · rename_i hr
    unfold get4 at h
    split at h
    · rename_i hc
      obtain ⟨c1, c2, c3, c4⟩ := clockB_iff.1 hc
      cases hb : (Pk.rC 64 b false).2.2 with
      | true => 
        have h2 : (Pk.rC 64 b false).1 = 0 := by
          unfold Pk.rC at hb ⊢
          split
          · rfl
          · rename_i hk
            rw [if_neg hk] at hb
            unfold Pk.rI at hb ⊢
            split
            · rename_i h8
              rw [if_pos h8] at hb
              cases hb
            · rfl
        omega
      | false =>
        obtain ⟨a1, a2, a3, a4⟩ := Rq.rC_inv hb
        generalize hC : Pk.rC 64 b false = C at *
        generalize hN : Pk.rI C.2.1 C.2.2 = N at *
        generalize hX : Pk.rI N.2.1 N.2.2 = X at *
        generalize hK : Pk.rC C.1 X.2.1 X.2.2 = K at *
        cases hf : rdL N.1 X.1 K.1.toNat [] 0 K.2.1 K.2.2 with
        | none => rw [hf] at h; cases h
        | some t =>
          obtain ⟨l, xs, bad⟩ := t
          rw [hf] at h
          simp only [fin] at h
          split at h
          · rename_i hbx
            obtain ⟨rfl, rfl⟩ := hbx
            have hk2 : K.2.2 = false := by
              cases e : K.2.2 with
              | false => rfl
              | true => rw [e] at hf; cases rdL_true _ _ _ _ hf
            obtain ⟨b1, b2, b3, b4⟩ := Rq.rC_inv (m := C.1) (ys := X.2.1) (bad := X.2.2) (by rw [hK]; exact hk2)
            rw [hK] at b2 b3 b4
            obtain ⟨d1, d2⟩ := Rq.rI_inv (ys := N.2.1) (bad := N.2.2) (by rw [hX]; exact b1)
            rw [hX] at d2
            obtain ⟨f1, f2⟩ := Rq.rI_inv (ys := C.2.1) (bad := C.2.2) (by rw [hN]; exact d1)
            rw [hN] at f2
            rw [hk2] at hf
            obtain ⟨t, t1, t2, t3, t4, t5⟩ := rdL_inv _ _ _ _ hf (by decide)
            simp only [List.nil_append, List.append_nil] at t1 t3
            subst t1
            obtain rfl := (Option.some.inj h)
            have hlen : ((l.length : Nat) : Int) = K.1 := by rw [t2]; omega
            refine ⟨⟨by simp only []; omega, a4, c1, c2, c3, c4, by simp only []; omega, t4, fun x hx => (t5 x hx).2⟩, ?_⟩
            rw [a2, f2, d2, b2, t3]
            unfold bytes nums flat
            simp [hlen]
          · cases h
    · cases h
/-- The reference counts up to 64 first. -/
theorem rC_64 {room : Int} {xs : List UInt8} {bad : Bool} (h1 : 1 ≤ room) (h2 : room ≤ 64) (h : (Pk.rC 64 xs bad).1 ≤ room) : Pk.rC 64 xs bad = Pk.rC room xs bad := by
  unfold Pk.rC at h ⊢
  split
  · rename_i hc
    rw [if_pos (by omega)]
  · rename_i hc
    rw [if_neg hc] at h
    rw [if_neg (by omega)]
theorem get4_no {room now next : Int} {xs : List UInt8} {bad : Bool} (h : room < (Pk.rC 64 xs bad).1) : get4 room now next xs bad = none := by
  have e : Pk.rC room xs bad = (0, [], true) := by
    unfold Pk.rC at h ⊢
    split at h
    · rename_i hc
      rcases hc with hc | hc
      · rw [if_pos (by omega)]
      · rw [if_pos (by simp only [] at h; omega)]
    · rw [if_pos (by omega)]
  unfold get4
  rw [e]
  split
  · simp [rdL, fin]
  · rfl
theorem rdL_sad {now next last : Int} {n : Nat} {acc : List One} (h0 : 0 ≤ last) : rdL now next (n + 1) acc last [] true = none := by
  rw [rdL, if_neg]
  intro h
  have := (okB_iff.1 h).1
  have e : (rd1 [] true).1.id = 0 := rfl
  omega
theorem nums_len (s : St) : (nums s).length = 4 + 3 * s.l.length := by
  unfold nums
  rw [List.length_append]
  have : (s.l.flatMap three).length = 3 * s.l.length := by
    induction s.l with
    | nil => rfl
    | cons x l ih => rw [List.flatMap_cons, List.length_append, ih, List.length_cons]; simp only [three, List.length_cons, List.length_nil]; omega
  rw [this]
  rfl
theorem bytes_len {m : Int} {s : St} (h : Fine m s) : (bytes s).length ≤ 1568 := by
  have h1 := h.len64
  have h2 := nums_len s
  unfold bytes
  have key : ∀ zs : List Int, (zs.flatMap Pk.be8).length = 8 * zs.length := fun zs => by
    induction zs with
    | nil => rfl
    | cons z zs ih => rw [List.flatMap_cons, List.length_append, ih, List.length_cons, Pk.be8_len]; omega
  rw [key]
  omega
end Go.Proofs.Ytlabdhllindenaa.Sq
