/- What is of no program: paths as lists of names over bytes: cutting at the slash, joining, parents, what is within what. What is of no program: a path with more behind it; two paths of unlike first names. What is of no program: a cut text, one byte more. -/
import Derived.Lib.SplitLaws
import Derived.Lib.LastIndexByte
import Derived.Lib.ItoaNum
import Derived.Lib.Join
namespace Go.Proofs.YtjimemnkmpapgaaGreatDoor.Pl

/-- A text cut at each slash. -/
def spl : List UInt8 → List (List UInt8)
  | [] => [[]]
  | c :: l => if c = 47 then [] :: spl l else match spl l with
    | [] => [[c]]
    | h :: t => (c :: h) :: t

theorem spl_ne (l : List UInt8) : spl l ≠ [] := by
  cases l with
  | nil => simp [spl]
  | cons c l =>
    simp only [spl]
    split
    · simp
    · split <;> simp

theorem spl_slash (l : List UInt8) : spl (47 :: l) = [] :: spl l := by simp [spl]

theorem spl_other {c : UInt8} (hc : c ≠ 47) {l h : List UInt8} {t : List (List UInt8)} (e : spl l = h :: t) : spl (c :: l) = (c :: h) :: t := by
  simp [spl, hc, e]

theorem spl_form (l : List UInt8) : ∃ h t, spl l = h :: t := by
  cases e : spl l with
  | nil => exact absurd e (spl_ne l)
  | cons h t => exact ⟨h, t, rfl⟩

/-- A path of names, whatever they are. -/
def of : List (List UInt8) → List UInt8
  | [] => []
  | n :: t => 47 :: (n ++ of t)

theorem of_append (a b : List (List UInt8)) : of (a ++ b) = of a ++ of b := by
  induction a with
  | nil => rfl
  | cons n t ih => simp [of, ih, List.append_assoc]

theorem of_spl (l : List UInt8) : of (spl l) = 47 :: l := by
  induction l with
  | nil => rfl
  | cons c l ih =>
    obtain ⟨h, t, e⟩ := spl_form l
    by_cases hc : c = 47
    · subst hc; rw [spl_slash, of, ih]; rfl
    · rw [spl_other hc e]
      rw [e, of] at ih
      have := List.cons.inj ih
      rw [of, List.cons_append, this.2]

theorem spl_plain (n : List UInt8) (h : ∀ c ∈ n, c ≠ 47) : spl n = [n] := by
  induction n with
  | nil => rfl
  | cons c n ih =>
    exact spl_other (h c (List.mem_cons_self ..)) (ih fun x hx => h x (List.mem_cons_of_mem _ hx))

theorem spl_join (n l : List UInt8) (h : ∀ c ∈ n, c ≠ 47) : spl (n ++ 47 :: l) = n :: spl l := by
  induction n with
  | nil => exact spl_slash l
  | cons c n ih =>
    exact spl_other (h c (List.mem_cons_self ..)) (ih fun x hx => h x (List.mem_cons_of_mem _ hx))

/-- Cutting behind a text that holds whole names. -/
theorem spl_two (a l : List UInt8) : spl (a ++ 47 :: l) = spl a ++ spl l := by
  induction a with
  | nil => exact spl_slash l
  | cons c a ih =>
    obtain ⟨h, t, e⟩ := spl_form a
    rw [e] at ih
    by_cases hc : c = 47
    · subst hc; rw [List.cons_append, spl_slash, spl_slash, ih, e]; rfl
    · rw [List.cons_append, spl_other hc (t := t ++ spl l) (by rw [ih]; rfl), spl_other hc e]; rfl

theorem spl_of (n : List UInt8) (t : List (List UInt8)) (h : ∀ x ∈ n :: t, ∀ c ∈ x, c ≠ 47) : spl (n ++ of t) = n :: t := by
  induction t generalizing n with
  | nil => rw [of, List.append_nil]; exact spl_plain n (h n (List.mem_cons_self ..))
  | cons m t ih =>
    rw [of, spl_join n _ (h n (List.mem_cons_self ..)), ih m fun x hx => h x (List.mem_cons_of_mem _ hx)]

/-- No name that a cut gives holds a slash. -/
theorem spl_clean (l : List UInt8) : ∀ x ∈ spl l, ∀ c ∈ x, c ≠ 47 := by
  induction l with
  | nil => simp [spl]
  | cons c l ih =>
    obtain ⟨h, t, e⟩ := spl_form l
    rw [e] at ih
    by_cases hc : c = 47
    · subst hc; rw [spl_slash, e]; intro x hx
      rcases List.mem_cons.1 hx with rfl | hx
      · simp
      · exact ih x hx
    · rw [spl_other hc e]; intro x hx
      rcases List.mem_cons.1 hx with rfl | hx
      · intro d hd
        rcases List.mem_cons.1 hd with rfl | hd
        · exact hc
        · exact ih h (List.mem_cons_self ..) d hd
      · exact ih x (List.mem_cons_of_mem _ hx)

theorem spl_length (l : List UInt8) : (spl l).length = l.count 47 + 1 := by
  induction l with
  | nil => rfl
  | cons c l ih =>
    obtain ⟨h, t, e⟩ := spl_form l
    rw [e] at ih
    by_cases hc : c = 47
    · subst hc; rw [spl_slash, e, List.length_cons, ih, List.count_cons_self]
    · rw [spl_other hc e, List.count_cons_of_ne hc, ← ih]; rfl

theorem spl_short (l : List UInt8) : ∀ x ∈ spl l, x.length ≤ l.length := by
  induction l with
  | nil => simp [spl]
  | cons c l ih =>
    obtain ⟨h, t, e⟩ := spl_form l
    rw [e] at ih
    by_cases hc : c = 47
    · subst hc; rw [spl_slash, e]; intro x hx
      rcases List.mem_cons.1 hx with rfl | hx
      · simp
      · have := ih x hx; simp only [List.length_cons]; omega
    · rw [spl_other hc e]; intro x hx
      rcases List.mem_cons.1 hx with rfl | hx
      · have := ih h (List.mem_cons_self ..); simp only [List.length_cons]; omega
      · have := ih x (List.mem_cons_of_mem _ hx); simp only [List.length_cons]; omega

/-- The library's Split at a slash is 'spl'. -/
theorem splitK_spl (s : List UInt8) : ∀ k, s.count 47 ≤ k → Lib.splitK [47] 0 k s = spl s := by
  induction s with
  | nil =>
    intro k _
    cases k with
    | zero => rfl
    | succ k => rfl
  | cons b l ih =>
    intro k hk
    obtain ⟨h, t, e⟩ := spl_form l
    by_cases hb : b = 47
    · subst hb
      rw [List.count_cons_self] at hk
      obtain ⟨j, rfl⟩ : ∃ j, k = j + 1 := ⟨k - 1, by omega⟩
      have hi : Lib.index (47 :: l) [47] = 0 := by simp [Lib.index]
      rw [Lib.splitK, hi, spl_slash]
      simp [ih j (by omega)]
    · have hk' : l.count 47 ≤ k := by rw [List.count_cons_of_ne hb] at hk; exact hk
      have hpre : [(47 : UInt8)].isPrefixOf (b :: l) = false := by
        have : ((47 : UInt8) == b) = false := by simpa using Ne.symm hb
        simp [List.isPrefixOf, this]
      have ihk := ih k hk'
      rw [e] at ihk
      cases k with
      | zero =>
        simp only [Lib.splitK] at ihk ⊢
        have := List.cons.inj ihk
        rw [spl_other hb e, ← this.1, ← this.2]
      | succ k =>
        have hi : Lib.index (b :: l) [47] = if Lib.index l [47] == -1 then -1 else Lib.index l [47] + 1 := by
          conv => lhs; unfold Lib.index
          rw [hpre]; rfl
        by_cases hm : Lib.index l [47] = -1
        · rw [Lib.splitK, hm] at ihk
          rw [Lib.splitK, hi, hm]
          have := List.cons.inj (show [l] = h :: t from ihk)
          rw [spl_other hb e, ← this.1, ← this.2]; rfl
        · have hge := Lib.index_ge l [47]
          obtain ⟨i, hi'⟩ : ∃ i : Nat, Lib.index l [47] = i := ⟨(Lib.index l [47]).toNat, by omega⟩
          rw [Lib.splitK, hi', if_neg (by simp)] at ihk
          have := List.cons.inj ihk
          rw [Lib.splitK, hi, hi', if_neg (show ¬ ((i : Int) == -1) = true by simp), if_neg (by simp; omega), spl_other hb e, ← this.1, ← this.2]
          have e1 : ((i : Int) + 1).toNat = i + 1 := by omega
          simp [e1]

theorem split_spl (s : List UInt8) : Lib.split s [47] = spl s := by
  unfold Lib.split
  rw [Lib.count_one]
  exact splitK_spl s _ (Nat.le_refl _)

/-- May a text be a name? -/
def byteB (c : UInt8) : Bool := decide (33 ≤ c.toNat) && decide (c.toNat ≤ 126) && !(c == 47)
def nameB (n : List UInt8) : Bool := decide (1 ≤ n.length) && decide (n.length ≤ 40) && !(n == [46]) && !(n == [46, 46]) && n.all byteB
theorem all_no {l : List UInt8} {c : UInt8} (h : c ∈ l) (hb : byteB c = false) : l.all byteB = false := by
  rw [List.all_eq_false]; exact ⟨c, h, by rw [hb]; simp⟩
theorem byteB_low {c : UInt8} (h : (c.toNat : Int) < 33) : byteB c = false := by
  have : decide (33 ≤ c.toNat) = false := by simp; omega
  simp [byteB, this]
theorem byteB_high {c : UInt8} (h : (126 : Int) < c.toNat) : byteB c = false := by
  have : decide (c.toNat ≤ 126) = false := by simp; omega
  simp [byteB, this]
theorem byteB_slash {c : UInt8} (h : ((c.toNat : Int) == 47) = true) : byteB c = false := by
  have : c = 47 := UInt8.toNat_inj.1 (by have := beq_iff_eq.1 h; simp; omega)
  subst this; rfl
theorem byteB_yes {c : UInt8} (h1 : (33 : Int) ≤ c.toNat) (h2 : (c.toNat : Int) ≤ 126) (h3 : ((c.toNat : Int) == 47) = false) : byteB c = true := by
  have e1 : decide (33 ≤ c.toNat) = true := by simp; omega
  have e2 : decide (c.toNat ≤ 126) = true := by simp; omega
  have e3 : (c == 47) = false := by
    rw [beq_eq_false_iff_ne] at h3 ⊢
    intro e; subst e; exact h3 rfl
  rw [byteB, e1, e2, e3]; rfl
theorem nameB_none {n : List UInt8} (h : n = []) : nameB n = false := by subst h; rfl
theorem nameB_long {n : List UInt8} (h : 40 < n.length) : nameB n = false := by
  have : decide (n.length ≤ 40) = false := by simpa using h
  simp [nameB, this]
theorem nameB_dot {n : List UInt8} (h : n = [46]) : nameB n = false := by subst h; rfl
theorem nameB_dots {n : List UInt8} (h : n = [46, 46]) : nameB n = false := by subst h; rfl
theorem nameB_rest {n : List UInt8} (h1 : n ≠ []) (h2 : n.length ≤ 40) (h3 : n ≠ [46]) (h4 : n ≠ [46, 46]) : nameB n = n.all byteB := by
  have e1 : decide (1 ≤ n.length) = true := decide_eq_true (List.length_pos_iff.2 h1)
  have e2 : decide (n.length ≤ 40) = true := by simpa using h2
  have e3 : (n == [46]) = false := by simpa using h3
  have e4 : (n == [46, 46]) = false := by simpa using h4
  rw [nameB, e1, e2, e3, e4]; rfl
/-- May these be a path's names, its length aside? -/
def namesB (l : List (List UInt8)) : Bool := decide (1 ≤ l.length) && decide (l.length ≤ 8) && l.all nameB
theorem namesB_nil : namesB [] = false := rfl
theorem namesB_many {l : List (List UInt8)} (h : 8 < l.length) : namesB l = false := by
  have : decide (l.length ≤ 8) = false := by simpa using h
  simp [namesB, this]
theorem namesB_rest {l : List (List UInt8)} (h1 : 1 ≤ l.length) (h8 : l.length ≤ 8) : namesB l = l.all nameB := by
  rw [namesB, decide_eq_true h1, decide_eq_true h8]; rfl
theorem names_no {l : List (List UInt8)} {n : List UInt8} (h : n ∈ l) (hb : nameB n = false) : l.all nameB = false := by
  rw [List.all_eq_false]; exact ⟨n, h, by rw [hb]; simp⟩
/-- May one be a path? -/
def goodB (p : List UInt8) : Bool := decide (p.length ≤ 200) && (p.head? == some 47) && namesB (spl (p.drop 1))
/-- Its names. -/
def parts (p : List UInt8) : List (List UInt8) := if goodB p then spl (p.drop 1) else []

theorem nameB_clean {n : List UInt8} (h : nameB n = true) : ∀ c ∈ n, c ≠ 47 := by
  unfold nameB at h
  simp only [Bool.and_eq_true, List.all_eq_true] at h
  intro c hc
  have := h.2 c hc
  unfold byteB at this
  simp only [Bool.and_eq_true] at this
  simpa using this.2

theorem namesB_clean {l : List (List UInt8)} (h : namesB l = true) : ∀ x ∈ l, ∀ c ∈ x, c ≠ 47 := by
  unfold namesB at h
  simp only [Bool.and_eq_true, List.all_eq_true] at h
  exact fun x hx => nameB_clean (h.2 x hx)

theorem good_iff (p : List UInt8) : goodB p = true ↔ ∃ l, namesB l = true ∧ p = of l ∧ p.length ≤ 200 := by
  constructor
  · intro h
    unfold goodB at h
    simp only [Bool.and_eq_true, decide_eq_true_eq] at h
    obtain ⟨⟨h1, h2⟩, h3⟩ := h
    cases p with
    | nil => simp at h2
    | cons c r =>
      have : c = 47 := by simpa using h2
      subst this
      exact ⟨spl r, by simpa using h3, by rw [of_spl], h1⟩
  · rintro ⟨l, hl, rfl, h1⟩
    have hc := namesB_clean hl
    cases l with
    | nil => simp [namesB] at hl
    | cons n t =>
      unfold goodB
      simp only [Bool.and_eq_true, decide_eq_true_eq]
      refine ⟨⟨h1, by simp [of]⟩, ?_⟩
      rw [of, List.drop_succ_cons, List.drop_zero, spl_of n t hc]; exact hl

theorem parts_of {l : List (List UInt8)} (hl : namesB l = true) (h : (of l).length ≤ 200) : parts (of l) = l := by
  have hg : goodB (of l) = true := (good_iff _).2 ⟨l, hl, rfl, h⟩
  unfold parts
  rw [hg, if_pos rfl]
  have hc := namesB_clean hl
  cases l with
  | nil => simp [namesB] at hl
  | cons n t => rw [of, List.drop_succ_cons, List.drop_zero, spl_of n t hc]

theorem good_parts {p : List UInt8} (h : goodB p = true) : p = of (parts p) ∧ namesB (parts p) = true ∧ p.length ≤ 200 := by
  obtain ⟨l, hl, rfl, h1⟩ := (good_iff p).1 h
  rw [parts_of hl h1]; exact ⟨rfl, hl, h1⟩

theorem bad_parts {p : List UInt8} (h : goodB p = false) : parts p = [] := by
  unfold parts; rw [h]; rfl

theorem good_long {p : List UInt8} (h : 200 < p.length) : goodB p = false := by
  have : decide (p.length ≤ 200) = false := by simpa using h
  simp [goodB, this]
theorem good_head {p : List UInt8} (h : Lib.hasPrefix p [47] = false) : goodB p = false := by
  have : (p.head? == some 47) = false := by
    cases p with
    | nil => rfl
    | cons c r =>
      rw [Lib.hasPrefix, List.isPrefixOf_cons_cons] at h
      rw [beq_eq_false_iff_ne]
      intro e
      have : c = 47 := by simpa using e
      subst this
      simp at h
  simp [goodB, this]
theorem good_rest {p : List UInt8} (h1 : p.length ≤ 200) (h2 : Lib.hasPrefix p [47] = true) : goodB p = namesB (spl (p.drop 1)) := by
  have e2 : (p.head? == some 47) = true := by
    cases p with
    | nil => simp [Lib.hasPrefix] at h2
    | cons c r =>
      rw [Lib.hasPrefix, List.isPrefixOf_cons_cons] at h2
      simp only [Bool.and_eq_true, beq_iff_eq] at h2
      rw [← h2.1]; rfl
  rw [goodB, decide_eq_true h1, e2]; rfl
theorem prefix_pos {p : List UInt8} (h : Lib.hasPrefix p [47] = true) : 1 ≤ p.length := by
  cases p with
  | nil => simp [Lib.hasPrefix] at h
  | cons c r => simp
theorem good_len (p : List UInt8) : decide (0 < (parts p).length) = goodB p := by
  cases h : goodB p with
  | false => rw [bad_parts h]; rfl
  | true =>
    have := (good_parts h).2.1
    unfold namesB at this
    simp only [Bool.and_eq_true, decide_eq_true_eq] at this
    simp only [decide_eq_true_eq]; omega

/-! ### Parents, names, what is within what -/

def parent (p : List UInt8) : List UInt8 := of (parts p).dropLast
def name (p : List UInt8) : List UInt8 := (parts p).getLast?.getD []
def top (p : List UInt8) : List UInt8 := (parts p).head?.getD []
def withinB (p q : List UInt8) : Bool := goodB p && goodB q && (q ++ [47]).isPrefixOf (p ++ [47])

theorem namesB_len {l : List (List UInt8)} (h : namesB l = true) : 1 ≤ l.length ∧ l.length ≤ 8 := by
  unfold namesB at h
  simp only [Bool.and_eq_true, decide_eq_true_eq] at h
  exact h.1

theorem namesB_sub {l m : List (List UInt8)} (h : namesB l = true) (hs : ∀ x ∈ m, x ∈ l) (h1 : 1 ≤ m.length) (h8 : m.length ≤ 8) : namesB m = true := by
  unfold namesB at h ⊢
  simp only [Bool.and_eq_true, decide_eq_true_eq, List.all_eq_true] at h ⊢
  exact ⟨⟨h1, h8⟩, fun x hx => h.2 x (hs x hx)⟩

theorem good_pre {l m : List (List UInt8)} (h : namesB l = true) (hl : (of l).length ≤ 200) (hp : m <+: l) (h1 : 1 ≤ m.length) : namesB m = true ∧ (of m).length ≤ 200 := by
  obtain ⟨t, rfl⟩ := hp
  have h8 := namesB_len h
  rw [of_append] at hl
  simp only [List.length_append] at h8 hl
  exact ⟨namesB_sub h (fun x hx => List.mem_append_left _ hx) h1 (by omega), by omega⟩

theorem good_parent {p : List UInt8} (h : goodB p = true) (h2 : 2 ≤ (parts p).length) : goodB (parent p) = true ∧ parts (parent p) = (parts p).dropLast := by
  obtain ⟨e, hn, hl⟩ := good_parts h
  rw [e] at hl
  obtain ⟨a, b⟩ := good_pre hn hl (List.dropLast_prefix _) (by rw [List.length_dropLast]; omega)
  exact ⟨(good_iff _).2 ⟨_, a, rfl, b⟩, parts_of a b⟩

/-- The last slash of a text behind which no slash stands. -/
theorem lastIndex_of (s : ByteArray) (a n : List UInt8) (e : s.data.toList = a ++ 47 :: n) (hn : ∀ c ∈ n, c ≠ 47) : Lib.lastIndexByte s 47 = a.length := by
  have hsz : s.size = a.length + (n.length + 1) := by
    have : s.data.toList.length = s.size := by simp
    rw [← this, e]; simp
  have hget : ∀ j, j < s.size → s.data[j]! = (a ++ 47 :: n)[j]! := by
    intro j hj
    have h1 : j < s.data.toList.length := by simpa using hj
    have h2 : j < s.data.size := by simpa using hj
    have : s.data[j]! = s.data.toList[j]! := by
      rw [getElem!_pos s.data j h2, getElem!_pos s.data.toList j h1, Array.getElem_toList]
    rw [this, e]
  have hat : ((s.data[a.length]!).toNat : Int) = 47 := by
    rw [hget _ (by omega)]; simp
  have hbehind : ∀ j, a.length < j → j < s.size → ((s.data[j]!).toNat : Int) ≠ 47 := by
    intro j h1 h2 h3
    rw [hget j h2] at h3
    obtain ⟨t, rfl⟩ : ∃ t, j = a.length + 1 + t := ⟨j - a.length - 1, by omega⟩
    have ht : t < n.length := by omega
    have e2 : (a ++ 47 :: n)[a.length + 1 + t]! = n[t] := by
      rw [getElem!_pos _ _ (by simp; omega), List.getElem_append_right (by omega)]
      simp [show a.length + 1 + t - a.length = t + 1 by omega]
    rw [e2] at h3
    exact hn n[t] (List.getElem_mem ht) (UInt8.toNat_inj.1 (by simpa using Int.ofNat.inj h3))
  rcases Lib.lastIndexByte_spec s 47 with ⟨_, h⟩ | ⟨i, hi, he, hc, h⟩
  · exact absurd hat (h a.length (by omega))
  · rw [he]
    rcases Nat.lt_trichotomy i a.length with hlt | rfl | hgt
    · exact absurd hat (h a.length hlt (by omega))
    · rfl
    · exact absurd hc (hbehind i hgt hi)

theorem of_last {l : List (List UInt8)} (h : l ≠ []) : of l = of l.dropLast ++ 47 :: l.getLast h := by
  conv => lhs; rw [← List.dropLast_concat_getLast h, of_append]
  simp [of]

theorem lastIndex_good (s : ByteArray) (h : goodB s.data.toList = true) : Lib.lastIndexByte s 47 = (parent s.data.toList).length := by
  obtain ⟨e, hn, _⟩ := good_parts h
  have h1 := namesB_len hn
  have hne : parts s.data.toList ≠ [] := by intro hh; rw [hh] at h1; simp at h1
  refine lastIndex_of s _ ((parts s.data.toList).getLast hne) ?_ (namesB_clean hn _ (List.getLast_mem hne))
  conv => lhs; rw [e]
  exact of_last hne

theorem parent_take {p : List UInt8} (h : goodB p = true) : p.take (parent p).length = parent p := by
  obtain ⟨e, hn, _⟩ := good_parts h
  have h1 := namesB_len hn
  have hne : parts p ≠ [] := by intro hh; rw [hh] at h1; simp at h1
  have e2 : p = parent p ++ 47 :: (parts p).getLast hne := e.trans (of_last hne)
  have h3 : (parent p ++ 47 :: (parts p).getLast hne).take (parent p).length = parent p := List.take_left
  rw [← e2] at h3; exact h3

theorem parent_len {p : List UInt8} (h : goodB p = true) : (parent p).length ≤ p.length := by
  rw [← parent_take h, List.length_take]; omega

theorem spl_drop_of {l : List (List UInt8)} (h : namesB l = true) : ∃ x, of l = 47 :: x ∧ spl x = l := by
  have hc := namesB_clean h
  cases l with
  | nil => simp [namesB] at h
  | cons n t => exact ⟨n ++ of t, rfl, spl_of n t hc⟩

theorem within_names {l m : List (List UInt8)} (hl : namesB l = true) (hm : namesB m = true) : (of m ++ [47]) <+: (of l ++ [47]) ↔ m <+: l := by
  obtain ⟨x, ex, sx⟩ := spl_drop_of hl
  obtain ⟨y, ey, sy⟩ := spl_drop_of hm
  constructor
  · rintro ⟨r, e⟩
    rw [ex, ey] at e
    have e' : y ++ 47 :: r = x ++ 47 :: [] := by simpa [List.append_assoc] using e
    have := congrArg spl e'
    rw [spl_two, spl_two, sx, sy] at this
    have hr := spl_ne r
    rw [← List.dropLast_concat_getLast hr, ← List.append_assoc] at this
    have h2 := List.append_inj' this (by simp [spl])
    exact ⟨_, h2.1⟩
  · rintro ⟨t, rfl⟩
    rw [of_append, List.append_assoc]
    cases t with
    | nil => simp [of]
    | cons n t => exact ⟨n ++ of t ++ [47], by simp [of]⟩

theorem within_iff {p q : List UInt8} (hp : goodB p = true) (hq : goodB q = true) : withinB p q = true ↔ parts q <+: parts p := by
  obtain ⟨ep, np, _⟩ := good_parts hp
  obtain ⟨eq, nq, _⟩ := good_parts hq
  unfold withinB
  rw [hp, hq, Bool.true_and, Bool.true_and, List.isPrefixOf_iff_prefix]
  conv => lhs; rw [ep, eq]
  exact within_names np nq

theorem good_inj {p q : List UInt8} (hp : goodB p = true) (hq : goodB q = true) (h : parts p = parts q) : p = q := by
  rw [(good_parts hp).1, (good_parts hq).1, h]

/-! ### Numbers behind a path -/

theorem nDigits_le : ∀ (k n : Nat), n < 10 ^ (k + 1) → Lib.nDigits n ≤ k + 1
  | 0, n, h => by rw [Lib.nDigits_small (by simpa using h)]; omega
  | k + 1, n, h => by
    by_cases hs : n < 10
    · rw [Lib.nDigits_small hs]; omega
    · rw [Lib.nDigits_big hs]
      have := nDigits_le k (n / 10) (by rw [Nat.pow_succ] at h; omega)
      omega

/-- A number's ten digits. -/
def dig10 (n : Nat) : List UInt8 := List.replicate (10 - (Lib.decDigits n).length) 48 ++ Lib.decDigits n

/-! ### Names joined -/

theorem join_of : ∀ (l : List (List UInt8)), l ≠ [] → 47 :: Lib.join l [47] = of l
  | [], h => absurd rfl h
  | [n], _ => by simp [Lib.join, of, List.intercalate]
  | n :: m :: t, _ => by
    have ih := join_of (m :: t) (by simp)
    have e : Lib.join (n :: m :: t) [47] = n ++ 47 :: Lib.join (m :: t) [47] := by
      simp [Lib.join, List.intercalate, List.intersperse]
    rw [e, ih]; rfl

theorem of_short : ∀ (l : List (List UInt8)), l.all nameB = true → (of l).length ≤ 41 * l.length
  | [], _ => by simp [of]
  | n :: t, h => by
    simp only [List.all_cons, Bool.and_eq_true] at h
    have ih := of_short t h.2
    have hn : n.length ≤ 40 := by
      have := h.1
      unfold nameB at this
      simp only [Bool.and_eq_true, decide_eq_true_eq] at this
      omega
    simp only [of, List.length_cons, List.length_append]
    omega

theorem join_short {l : List (List UInt8)} (h : namesB l = true) : (Lib.join l [47]).length ≤ 328 ∧ l ≠ [] ∧ l.length ≤ 8 := by
  have h8 := namesB_len h
  have hne : l ≠ [] := by intro e; rw [e] at h8; simp at h8
  have hall : l.all nameB = true := by
    unfold namesB at h
    simp only [Bool.and_eq_true] at h
    exact h.2
  have h1 := congrArg List.length (join_of l hne)
  have h2 := of_short l hall
  simp only [List.length_cons] at h1
  exact ⟨by omega, hne, h8.2⟩

/-- What Join tells: may the names be a path? -/
def joinB (l : List (List UInt8)) : Bool := namesB l && goodB (of l)
end Go.Proofs.YtjimemnkmpapgaaGreatDoor.Pl
namespace Go.Proofs.YtjimemnkmpapgaaGreatDoor.Pl

theorem deeper_parts {p s : List UInt8} (hp : goodB p = true) (hq : goodB (p ++ 47 :: s) = true) : parts (p ++ 47 :: s) = parts p ++ spl s := by
  have h1 : parts (p ++ 47 :: s) = spl ((p ++ 47 :: s).drop 1) := by unfold parts; rw [hq]; rfl
  have h2 : parts p = spl (p.drop 1) := by unfold parts; rw [hp]; rfl
  have e := (good_parts hp).1
  obtain ⟨x, ex, _⟩ := spl_drop_of (good_parts hp).2.1
  rw [ex] at e
  rw [h1, h2, e]
  exact spl_two x s

theorem spl_one {s : List UInt8} (h : (spl s).length = 1) : spl s = [s] := by
  obtain ⟨a, t, e⟩ := spl_form s
  rw [e] at h
  have ht : t = [] := List.length_eq_zero_iff.1 (by simpa using h)
  subst ht
  have := of_spl s
  rw [e, of, of, List.append_nil] at this
  have := (List.cons.inj this).2
  rw [e, this]

theorem deeper_len {p s : List UInt8} (hp : goodB p = true) (hq : goodB (p ++ 47 :: s) = true) : (parts p).length + 1 ≤ (parts (p ++ 47 :: s)).length := by
  rw [deeper_parts hp hq, List.length_append, spl_length]; omega

theorem deeper_in {p s : List UInt8} (hp : goodB p = true) (hq : goodB (p ++ 47 :: s) = true) : withinB (p ++ 47 :: s) p = true := by
  rw [within_iff hq hp, deeper_parts hp hq]; exact List.prefix_append _ _

theorem deeper_out {p s : List UInt8} (hp : goodB p = true) (hq : goodB (p ++ 47 :: s) = true) : withinB p (p ++ 47 :: s) = false := by
  cases h : withinB p (p ++ 47 :: s) with
  | false => rfl
  | true =>
    rw [within_iff hp hq] at h
    have := h.length_le
    have := deeper_len hp hq
    omega

theorem deeper_one {p s : List UInt8} (hp : goodB p = true) (hq : goodB (p ++ 47 :: s) = true) (h : (parts (p ++ 47 :: s)).length = (parts p).length + 1) : parent (p ++ 47 :: s) = p ∧ name (p ++ 47 :: s) = s := by
  have hs : spl s = [s] := spl_one (by rw [deeper_parts hp hq, List.length_append] at h; omega)
  have e := deeper_parts hp hq
  rw [hs] at e
  refine ⟨?_, ?_⟩
  · rw [parent, e, List.dropLast_concat]; exact (good_parts hp).1.symm
  · rw [name, e]; simp

theorem top_parent {p : List UInt8} (hp : goodB p = true) (h2 : 2 ≤ (parts p).length) : top (parent p) = top p := by
  rw [top, (good_parent hp h2).2, top]
  match h : parts p, h2 with
  | a :: b :: t, _ => rfl

theorem top_within {p q : List UInt8} (hp : goodB p = true) (hq : goodB q = true) (h : withinB p q = true) : top p = top q := by
  rw [within_iff hp hq] at h
  obtain ⟨t, e⟩ := h
  have h1 := namesB_len (good_parts hq).2.1
  rw [top, top, ← e]
  match parts q, h1 with
  | a :: b, _ => rfl

theorem apart_within {p q : List UInt8} (hp : goodB p = true) (hq : goodB q = true) (h : top p ≠ top q) : withinB p q = false := by
  cases hw : withinB p q with
  | false => rfl
  | true => exact absurd (top_within hp hq hw) h

theorem apart_parent {p q : List UInt8} (hp : goodB p = true) (h2 : 2 ≤ (parts p).length) (h : top p ≠ top q) : parent p ≠ q := by
  intro e
  exact h (by rw [← e, top_parent hp h2])
end Go.Proofs.YtjimemnkmpapgaaGreatDoor.Pl
namespace Go.Proofs.YtjimemnkmpapgaaGreatDoor.Pl

theorem spl_snoc_slash (a : List UInt8) : spl (a ++ [47]) = spl a ++ [[]] := spl_two a []

theorem spl_snoc_other {c : UInt8} (hc : c ≠ 47) : ∀ (a : List UInt8) (ys : List (List UInt8)) (y : List UInt8), spl a = ys ++ [y] → spl (a ++ [c]) = ys ++ [y ++ [c]]
  | [], ys, y, h => by
    have e : ([[]] : List (List UInt8)) = ys ++ [y] := h
    match ys, e with
    | [], e =>
      have hy : y = [] := by simpa using e.symm
      subst hy
      exact spl_other hc (l := []) (h := []) (t := []) rfl
    | _ :: t, e => simp at e
  | d :: a, ys, y, h => by
    obtain ⟨n, t, e⟩ := spl_form a
    by_cases hd : d = 47
    · subst hd
      rw [spl_slash] at h
      match ys, h with
      | [], h => have := congrArg List.length h; rw [e] at this; simp at this
      | z :: zs, h =>
        have h1 := List.cons.inj h
        rw [List.cons_append, spl_slash, spl_snoc_other hc a zs y h1.2, ← h1.1]; rfl
    · rw [spl_other hd e] at h
      match ys, h with
      | [], h =>
        have h1 := List.cons.inj h
        have ih := spl_snoc_other hc a [] n (by rw [e, h1.2]; rfl)
        rw [List.cons_append, spl_other hd ih, ← h1.1]; rfl
      | z :: zs, h =>
        have h1 := List.cons.inj h
        have ih := spl_snoc_other hc a (n :: zs) y (by rw [e, h1.2]; rfl)
        rw [List.cons_append, spl_other hd ih, ← h1.1]; rfl
end Go.Proofs.YtjimemnkmpapgaaGreatDoor.Pl
