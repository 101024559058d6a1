/- What is of no program: paths as lists of names over bytes: cutting at the slash, joining, parents, what is within what. What is of no program: a path with more behind it; two paths of unlike first names. What is of no program: a cut text, one byte more. Numbers in eight bytes, the highest first: plain reckoning, no program. Ops and lists of Ops, wherever they lie. A node, and its changes: plain reckoning, no program. What may be asked: plain reckoning, no program. Replies in bytes, and back: plain reckoning, no program. A node's bytes, and back: plain reckoning. What stat's calls are asked to answer (to be proved of the landed code). A tree of nodes, plainly: no program. What Do leaves of a tree: plain reckoning. What Do answers to a few Ops: plain reckoning. What is of no program: numbers of ten digits behind a path: their order, and what a numbered path is. Numbered children of one node: plain reckoning. Whatever is done, each node's Parent is there, and has its name: plain reckoning. Whose the ephemeral nodes are: plain reckoning. Results and lists of them, wherever they lie; what the statements' own 'heavy' answers. -/
import Derived.Lib.SplitLaws
import Derived.Lib.LastIndexByte
import Derived.Lib.ItoaNum
import Derived.Lib.Join
import Derived.Lib.AppendStr
import Derived.Test.YtpidafpaffpnaaaGreatDoorBas
import Derived.BigRegion
import Derived.Deep.QuietTactic
import Derived.BigQuiet
import Derived.Deep.RegionWith
import GoSem.Op.String
namespace Go.Proofs.YtpidafpaffpnaaaGreatDoor.Pl

/-- A text cut at each slash. -/
def spl : List UInt8 → List (List UInt8)
  | [] => [[]]
  | c :: l => if c = 47 then [] :: spl l else match spl l with
    | [] => [[c]]
    | h :: t => (c :: h) :: t

theorem spl_ne (l : List UInt8) : spl l ≠ [] := by
  cases l with
  | nil => simp [spl]
  | cons c l =>
    simp only [spl]
    split
    · simp
    · split <;> simp

theorem spl_slash (l : List UInt8) : spl (47 :: l) = [] :: spl l := by simp [spl]

theorem spl_other {c : UInt8} (hc : c ≠ 47) {l h : List UInt8} {t : List (List UInt8)} (e : spl l = h :: t) : spl (c :: l) = (c :: h) :: t := by
  simp [spl, hc, e]

theorem spl_form (l : List UInt8) : ∃ h t, spl l = h :: t := by
  cases e : spl l with
  | nil => exact absurd e (spl_ne l)
  | cons h t => exact ⟨h, t, rfl⟩

/-- A path of names, whatever they are. -/
def of : List (List UInt8) → List UInt8
  | [] => []
  | n :: t => 47 :: (n ++ of t)

theorem of_append (a b : List (List UInt8)) : of (a ++ b) = of a ++ of b := by
  induction a with
  | nil => rfl
  | cons n t ih => simp [of, ih, List.append_assoc]

theorem of_spl (l : List UInt8) : of (spl l) = 47 :: l := by
  induction l with
  | nil => rfl
  | cons c l ih =>
    obtain ⟨h, t, e⟩ := spl_form l
    by_cases hc : c = 47
    · subst hc; rw [spl_slash, of, ih]; rfl
    · rw [spl_other hc e]
      rw [e, of] at ih
      have := List.cons.inj ih
      rw [of, List.cons_append, this.2]

theorem spl_plain (n : List UInt8) (h : ∀ c ∈ n, c ≠ 47) : spl n = [n] := by
  induction n with
  | nil => rfl
  | cons c n ih =>
    exact spl_other (h c (List.mem_cons_self ..)) (ih fun x hx => h x (List.mem_cons_of_mem _ hx))

theorem spl_join (n l : List UInt8) (h : ∀ c ∈ n, c ≠ 47) : spl (n ++ 47 :: l) = n :: spl l := by
  induction n with
  | nil => exact spl_slash l
  | cons c n ih =>
    exact spl_other (h c (List.mem_cons_self ..)) (ih fun x hx => h x (List.mem_cons_of_mem _ hx))

/-- Cutting behind a text that holds whole names. -/
theorem spl_two (a l : List UInt8) : spl (a ++ 47 :: l) = spl a ++ spl l := by
  induction a with
  | nil => exact spl_slash l
  | cons c a ih =>
    obtain ⟨h, t, e⟩ := spl_form a
    rw [e] at ih
    by_cases hc : c = 47
    · subst hc; rw [List.cons_append, spl_slash, spl_slash, ih, e]; rfl
    · rw [List.cons_append, spl_other hc (t := t ++ spl l) (by rw [ih]; rfl), spl_other hc e]; rfl

theorem spl_of (n : List UInt8) (t : List (List UInt8)) (h : ∀ x ∈ n :: t, ∀ c ∈ x, c ≠ 47) : spl (n ++ of t) = n :: t := by
  induction t generalizing n with
  | nil => rw [of, List.append_nil]; exact spl_plain n (h n (List.mem_cons_self ..))
  | cons m t ih =>
    rw [of, spl_join n _ (h n (List.mem_cons_self ..)), ih m fun x hx => h x (List.mem_cons_of_mem _ hx)]

/-- No name that a cut gives holds a slash. -/
theorem spl_clean (l : List UInt8) : ∀ x ∈ spl l, ∀ c ∈ x, c ≠ 47 := by
  induction l with
  | nil => simp [spl]
  | cons c l ih =>
    obtain ⟨h, t, e⟩ := spl_form l
    rw [e] at ih
    by_cases hc : c = 47
    · subst hc; rw [spl_slash, e]; intro x hx
      rcases List.mem_cons.1 hx with rfl | hx
      · simp
      · exact ih x hx
    · rw [spl_other hc e]; intro x hx
      rcases List.mem_cons.1 hx with rfl | hx
      · intro d hd
        rcases List.mem_cons.1 hd with rfl | hd
        · exact hc
        · exact ih h (List.mem_cons_self ..) d hd
      · exact ih x (List.mem_cons_of_mem _ hx)

theorem spl_length (l : List UInt8) : (spl l).length = l.count 47 + 1 := by
  induction l with
  | nil => rfl
  | cons c l ih =>
    obtain ⟨h, t, e⟩ := spl_form l
    rw [e] at ih
    by_cases hc : c = 47
    · subst hc; rw [spl_slash, e, List.length_cons, ih, List.count_cons_self]
    · rw [spl_other hc e, List.count_cons_of_ne hc, ← ih]; rfl

theorem spl_short (l : List UInt8) : ∀ x ∈ spl l, x.length ≤ l.length := by
  induction l with
  | nil => simp [spl]
  | cons c l ih =>
    obtain ⟨h, t, e⟩ := spl_form l
    rw [e] at ih
    by_cases hc : c = 47
    · subst hc; rw [spl_slash, e]; intro x hx
      rcases List.mem_cons.1 hx with rfl | hx
      · simp
      · have := ih x hx; simp only [List.length_cons]; omega
    · rw [spl_other hc e]; intro x hx
      rcases List.mem_cons.1 hx with rfl | hx
      · have := ih h (List.mem_cons_self ..); simp only [List.length_cons]; omega
      · have := ih x (List.mem_cons_of_mem _ hx); simp only [List.length_cons]; omega

/-- The library's Split at a slash is 'spl'. -/
theorem splitK_spl (s : List UInt8) : ∀ k, s.count 47 ≤ k → Lib.splitK [47] 0 k s = spl s := by
  induction s with
  | nil =>
    intro k _
    cases k with
    | zero => rfl
    | succ k => rfl
  | cons b l ih =>
    intro k hk
    obtain ⟨h, t, e⟩ := spl_form l
    by_cases hb : b = 47
    · subst hb
      rw [List.count_cons_self] at hk
      obtain ⟨j, rfl⟩ : ∃ j, k = j + 1 := ⟨k - 1, by omega⟩
      have hi : Lib.index (47 :: l) [47] = 0 := by simp [Lib.index]
      rw [Lib.splitK, hi, spl_slash]
      simp [ih j (by omega)]
    · have hk' : l.count 47 ≤ k := by rw [List.count_cons_of_ne hb] at hk; exact hk
      have hpre : [(47 : UInt8)].isPrefixOf (b :: l) = false := by
        have : ((47 : UInt8) == b) = false := by simpa using Ne.symm hb
        simp [List.isPrefixOf, this]
      have ihk := ih k hk'
      rw [e] at ihk
      cases k with
      | zero =>
        simp only [Lib.splitK] at ihk ⊢
        have := List.cons.inj ihk
        rw [spl_other hb e, ← this.1, ← this.2]
      | succ k =>
        have hi : Lib.index (b :: l) [47] = if Lib.index l [47] == -1 then -1 else Lib.index l [47] + 1 := by
          conv => lhs; unfold Lib.index
          rw [hpre]; rfl
        by_cases hm : Lib.index l [47] = -1
        · rw [Lib.splitK, hm] at ihk
          rw [Lib.splitK, hi, hm]
          have := List.cons.inj (show [l] = h :: t from ihk)
          rw [spl_other hb e, ← this.1, ← this.2]; rfl
        · have hge := Lib.index_ge l [47]
          obtain ⟨i, hi'⟩ : ∃ i : Nat, Lib.index l [47] = i := ⟨(Lib.index l [47]).toNat, by omega⟩
          rw [Lib.splitK, hi', if_neg (by simp)] at ihk
          have := List.cons.inj ihk
          rw [Lib.splitK, hi, hi', if_neg (show ¬ ((i : Int) == -1) = true by simp), if_neg (by simp; omega), spl_other hb e, ← this.1, ← this.2]
          have e1 : ((i : Int) + 1).toNat = i + 1 := by omega
          simp [e1]

theorem split_spl (s : List UInt8) : Lib.split s [47] = spl s := by
  unfold Lib.split
  rw [Lib.count_one]
  exact splitK_spl s _ (Nat.le_refl _)

/-- May a text be a name? -/
def byteB (c : UInt8) : Bool := decide (33 ≤ c.toNat) && decide (c.toNat ≤ 126) && !(c == 47)
def nameB (n : List UInt8) : Bool := decide (1 ≤ n.length) && decide (n.length ≤ 40) && !(n == [46]) && !(n == [46, 46]) && n.all byteB
theorem all_no {l : List UInt8} {c : UInt8} (h : c ∈ l) (hb : byteB c = false) : l.all byteB = false := by
  rw [List.all_eq_false]; exact ⟨c, h, by rw [hb]; simp⟩
theorem byteB_low {c : UInt8} (h : (c.toNat : Int) < 33) : byteB c = false := by
  have : decide (33 ≤ c.toNat) = false := by simp; omega
  simp [byteB, this]
theorem byteB_high {c : UInt8} (h : (126 : Int) < c.toNat) : byteB c = false := by
  have : decide (c.toNat ≤ 126) = false := by simp; omega
  simp [byteB, this]
theorem byteB_slash {c : UInt8} (h : ((c.toNat : Int) == 47) = true) : byteB c = false := by
  have : c = 47 := UInt8.toNat_inj.1 (by have := beq_iff_eq.1 h; simp; omega)
  subst this; rfl
theorem byteB_yes {c : UInt8} (h1 : (33 : Int) ≤ c.toNat) (h2 : (c.toNat : Int) ≤ 126) (h3 : ((c.toNat : Int) == 47) = false) : byteB c = true := by
  have e1 : decide (33 ≤ c.toNat) = true := by simp; omega
  have e2 : decide (c.toNat ≤ 126) = true := by simp; omega
  have e3 : (c == 47) = false := by
    rw [beq_eq_false_iff_ne] at h3 ⊢
    intro e; subst e; exact h3 rfl
  rw [byteB, e1, e2, e3]; rfl
theorem nameB_none {n : List UInt8} (h : n = []) : nameB n = false := by subst h; rfl
theorem nameB_long {n : List UInt8} (h : 40 < n.length) : nameB n = false := by
  have : decide (n.length ≤ 40) = false := by simpa using h
  simp [nameB, this]
theorem nameB_dot {n : List UInt8} (h : n = [46]) : nameB n = false := by subst h; rfl
theorem nameB_dots {n : List UInt8} (h : n = [46, 46]) : nameB n = false := by subst h; rfl
theorem nameB_rest {n : List UInt8} (h1 : n ≠ []) (h2 : n.length ≤ 40) (h3 : n ≠ [46]) (h4 : n ≠ [46, 46]) : nameB n = n.all byteB := by
  have e1 : decide (1 ≤ n.length) = true := decide_eq_true (List.length_pos_iff.2 h1)
  have e2 : decide (n.length ≤ 40) = true := by simpa using h2
  have e3 : (n == [46]) = false := by simpa using h3
  have e4 : (n == [46, 46]) = false := by simpa using h4
  rw [nameB, e1, e2, e3, e4]; rfl
/-- May these be a path's names, its length aside? -/
def namesB (l : List (List UInt8)) : Bool := decide (1 ≤ l.length) && decide (l.length ≤ 8) && l.all nameB
theorem namesB_nil : namesB [] = false := rfl
theorem namesB_many {l : List (List UInt8)} (h : 8 < l.length) : namesB l = false := by
  have : decide (l.length ≤ 8) = false := by simpa using h
  simp [namesB, this]
theorem namesB_rest {l : List (List UInt8)} (h1 : 1 ≤ l.length) (h8 : l.length ≤ 8) : namesB l = l.all nameB := by
  rw [namesB, decide_eq_true h1, decide_eq_true h8]; rfl
theorem names_no {l : List (List UInt8)} {n : List UInt8} (h : n ∈ l) (hb : nameB n = false) : l.all nameB = false := by
  rw [List.all_eq_false]; exact ⟨n, h, by rw [hb]; simp⟩
/-- May one be a path? -/
def goodB (p : List UInt8) : Bool := decide (p.length ≤ 200) && (p.head? == some 47) && namesB (spl (p.drop 1))
/-- Its names. -/
def parts (p : List UInt8) : List (List UInt8) := if goodB p then spl (p.drop 1) else []

theorem nameB_clean {n : List UInt8} (h : nameB n = true) : ∀ c ∈ n, c ≠ 47 := by
  unfold nameB at h
  simp only [Bool.and_eq_true, List.all_eq_true] at h
  intro c hc
  have := h.2 c hc
  unfold byteB at this
  simp only [Bool.and_eq_true] at this
  simpa using this.2

theorem namesB_clean {l : List (List UInt8)} (h : namesB l = true) : ∀ x ∈ l, ∀ c ∈ x, c ≠ 47 := by
  unfold namesB at h
  simp only [Bool.and_eq_true, List.all_eq_true] at h
  exact fun x hx => nameB_clean (h.2 x hx)

theorem good_iff (p : List UInt8) : goodB p = true ↔ ∃ l, namesB l = true ∧ p = of l ∧ p.length ≤ 200 := by
  constructor
  · intro h
    unfold goodB at h
    simp only [Bool.and_eq_true, decide_eq_true_eq] at h
    obtain ⟨⟨h1, h2⟩, h3⟩ := h
    cases p with
    | nil => simp at h2
    | cons c r =>
      have : c = 47 := by simpa using h2
      subst this
      exact ⟨spl r, by simpa using h3, by rw [of_spl], h1⟩
  · rintro ⟨l, hl, rfl, h1⟩
    have hc := namesB_clean hl
    cases l with
    | nil => simp [namesB] at hl
    | cons n t =>
      unfold goodB
      simp only [Bool.and_eq_true, decide_eq_true_eq]
      refine ⟨⟨h1, by simp [of]⟩, ?_⟩
      rw [of, List.drop_succ_cons, List.drop_zero, spl_of n t hc]; exact hl

theorem parts_of {l : List (List UInt8)} (hl : namesB l = true) (h : (of l).length ≤ 200) : parts (of l) = l := by
  have hg : goodB (of l) = true := (good_iff _).2 ⟨l, hl, rfl, h⟩
  unfold parts
  rw [hg, if_pos rfl]
  have hc := namesB_clean hl
  cases l with
  | nil => simp [namesB] at hl
  | cons n t => rw [of, List.drop_succ_cons, List.drop_zero, spl_of n t hc]

theorem good_parts {p : List UInt8} (h : goodB p = true) : p = of (parts p) ∧ namesB (parts p) = true ∧ p.length ≤ 200 := by
  obtain ⟨l, hl, rfl, h1⟩ := (good_iff p).1 h
  rw [parts_of hl h1]; exact ⟨rfl, hl, h1⟩

theorem bad_parts {p : List UInt8} (h : goodB p = false) : parts p = [] := by
  unfold parts; rw [h]; rfl

theorem good_long {p : List UInt8} (h : 200 < p.length) : goodB p = false := by
  have : decide (p.length ≤ 200) = false := by simpa using h
  simp [goodB, this]
theorem good_head {p : List UInt8} (h : Lib.hasPrefix p [47] = false) : goodB p = false := by
  have : (p.head? == some 47) = false := by
    cases p with
    | nil => rfl
    | cons c r =>
      rw [Lib.hasPrefix, List.isPrefixOf_cons_cons] at h
      rw [beq_eq_false_iff_ne]
      intro e
      have : c = 47 := by simpa using e
      subst this
      simp at h
  simp [goodB, this]
theorem good_rest {p : List UInt8} (h1 : p.length ≤ 200) (h2 : Lib.hasPrefix p [47] = true) : goodB p = namesB (spl (p.drop 1)) := by
  have e2 : (p.head? == some 47) = true := by
    cases p with
    | nil => simp [Lib.hasPrefix] at h2
    | cons c r =>
      rw [Lib.hasPrefix, List.isPrefixOf_cons_cons] at h2
      simp only [Bool.and_eq_true, beq_iff_eq] at h2
      rw [← h2.1]; rfl
  rw [goodB, decide_eq_true h1, e2]; rfl
theorem prefix_pos {p : List UInt8} (h : Lib.hasPrefix p [47] = true) : 1 ≤ p.length := by
  cases p with
  | nil => simp [Lib.hasPrefix] at h
  | cons c r => simp
theorem good_len (p : List UInt8) : decide (0 < (parts p).length) = goodB p := by
  cases h : goodB p with
  | false => rw [bad_parts h]; rfl
  | true =>
    have := (good_parts h).2.1
    unfold namesB at this
    simp only [Bool.and_eq_true, decide_eq_true_eq] at this
    simp only [decide_eq_true_eq]; omega

/-! ### Parents, names, what is within what -/

def parent (p : List UInt8) : List UInt8 := of (parts p).dropLast
def name (p : List UInt8) : List UInt8 := (parts p).getLast?.getD []
def top (p : List UInt8) : List UInt8 := (parts p).head?.getD []
def withinB (p q : List UInt8) : Bool := goodB p && goodB q && (q ++ [47]).isPrefixOf (p ++ [47])

theorem namesB_len {l : List (List UInt8)} (h : namesB l = true) : 1 ≤ l.length ∧ l.length ≤ 8 := by
  unfold namesB at h
  simp only [Bool.and_eq_true, decide_eq_true_eq] at h
  exact h.1

theorem namesB_sub {l m : List (List UInt8)} (h : namesB l = true) (hs : ∀ x ∈ m, x ∈ l) (h1 : 1 ≤ m.length) (h8 : m.length ≤ 8) : namesB m = true := by
  unfold namesB at h ⊢
  simp only [Bool.and_eq_true, decide_eq_true_eq, List.all_eq_true] at h ⊢
  exact ⟨⟨h1, h8⟩, fun x hx => h.2 x (hs x hx)⟩

theorem good_pre {l m : List (List UInt8)} (h : namesB l = true) (hl : (of l).length ≤ 200) (hp : m <+: l) (h1 : 1 ≤ m.length) : namesB m = true ∧ (of m).length ≤ 200 := by
  obtain ⟨t, rfl⟩ := hp
  have h8 := namesB_len h
  rw [of_append] at hl
  simp only [List.length_append] at h8 hl
  exact ⟨namesB_sub h (fun x hx => List.mem_append_left _ hx) h1 (by omega), by omega⟩

theorem good_parent {p : List UInt8} (h : goodB p = true) (h2 : 2 ≤ (parts p).length) : goodB (parent p) = true ∧ parts (parent p) = (parts p).dropLast := by
  obtain ⟨e, hn, hl⟩ := good_parts h
  rw [e] at hl
  obtain ⟨a, b⟩ := good_pre hn hl (List.dropLast_prefix _) (by rw [List.length_dropLast]; omega)
  exact ⟨(good_iff _).2 ⟨_, a, rfl, b⟩, parts_of a b⟩

/-- The last slash of a text behind which no slash stands. -/
theorem lastIndex_of (s : ByteArray) (a n : List UInt8) (e : s.data.toList = a ++ 47 :: n) (hn : ∀ c ∈ n, c ≠ 47) : Lib.lastIndexByte s 47 = a.length := by
  have hsz : s.size = a.length + (n.length + 1) := by
    have : s.data.toList.length = s.size := by simp
    rw [← this, e]; simp
  have hget : ∀ j, j < s.size → s.data[j]! = (a ++ 47 :: n)[j]! := by
    intro j hj
    have h1 : j < s.data.toList.length := by simpa using hj
    have h2 : j < s.data.size := by simpa using hj
    have : s.data[j]! = s.data.toList[j]! := by
      rw [getElem!_pos s.data j h2, getElem!_pos s.data.toList j h1, Array.getElem_toList]
    rw [this, e]
  have hat : ((s.data[a.length]!).toNat : Int) = 47 := by
    rw [hget _ (by omega)]; simp
  have hbehind : ∀ j, a.length < j → j < s.size → ((s.data[j]!).toNat : Int) ≠ 47 := by
    intro j h1 h2 h3
    rw [hget j h2] at h3
    obtain ⟨t, rfl⟩ : ∃ t, j = a.length + 1 + t := ⟨j - a.length - 1, by omega⟩
    have ht : t < n.length := by omega
    have e2 : (a ++ 47 :: n)[a.length + 1 + t]! = n[t] := by
      rw [getElem!_pos _ _ (by simp; omega), List.getElem_append_right (by omega)]
      simp [show a.length + 1 + t - a.length = t + 1 by omega]
    rw [e2] at h3
    exact hn n[t] (List.getElem_mem ht) (UInt8.toNat_inj.1 (by simpa using Int.ofNat.inj h3))
  rcases Lib.lastIndexByte_spec s 47 with ⟨_, h⟩ | ⟨i, hi, he, hc, h⟩
  · exact absurd hat (h a.length (by omega))
  · rw [he]
    rcases Nat.lt_trichotomy i a.length with hlt | rfl | hgt
    · exact absurd hat (h a.length hlt (by omega))
    · rfl
    · exact absurd hc (hbehind i hgt hi)

theorem of_last {l : List (List UInt8)} (h : l ≠ []) : of l = of l.dropLast ++ 47 :: l.getLast h := by
  conv => lhs; rw [← List.dropLast_concat_getLast h, of_append]
  simp [of]

theorem lastIndex_good (s : ByteArray) (h : goodB s.data.toList = true) : Lib.lastIndexByte s 47 = (parent s.data.toList).length := by
  obtain ⟨e, hn, _⟩ := good_parts h
  have h1 := namesB_len hn
  have hne : parts s.data.toList ≠ [] := by intro hh; rw [hh] at h1; simp at h1
  refine lastIndex_of s _ ((parts s.data.toList).getLast hne) ?_ (namesB_clean hn _ (List.getLast_mem hne))
  conv => lhs; rw [e]
  exact of_last hne

theorem parent_take {p : List UInt8} (h : goodB p = true) : p.take (parent p).length = parent p := by
  obtain ⟨e, hn, _⟩ := good_parts h
  have h1 := namesB_len hn
  have hne : parts p ≠ [] := by intro hh; rw [hh] at h1; simp at h1
  have e2 : p = parent p ++ 47 :: (parts p).getLast hne := e.trans (of_last hne)
  have h3 : (parent p ++ 47 :: (parts p).getLast hne).take (parent p).length = parent p := List.take_left
  rw [← e2] at h3; exact h3

theorem parent_len {p : List UInt8} (h : goodB p = true) : (parent p).length ≤ p.length := by
  rw [← parent_take h, List.length_take]; omega

theorem spl_drop_of {l : List (List UInt8)} (h : namesB l = true) : ∃ x, of l = 47 :: x ∧ spl x = l := by
  have hc := namesB_clean h
  cases l with
  | nil => simp [namesB] at h
  | cons n t => exact ⟨n ++ of t, rfl, spl_of n t hc⟩

theorem within_names {l m : List (List UInt8)} (hl : namesB l = true) (hm : namesB m = true) : (of m ++ [47]) <+: (of l ++ [47]) ↔ m <+: l := by
  obtain ⟨x, ex, sx⟩ := spl_drop_of hl
  obtain ⟨y, ey, sy⟩ := spl_drop_of hm
  constructor
  · rintro ⟨r, e⟩
    rw [ex, ey] at e
    have e' : y ++ 47 :: r = x ++ 47 :: [] := by simpa [List.append_assoc] using e
    have := congrArg spl e'
    rw [spl_two, spl_two, sx, sy] at this
    have hr := spl_ne r
    rw [← List.dropLast_concat_getLast hr, ← List.append_assoc] at this
    have h2 := List.append_inj' this (by simp [spl])
    exact ⟨_, h2.1⟩
  · rintro ⟨t, rfl⟩
    rw [of_append, List.append_assoc]
    cases t with
    | nil => simp [of]
    | cons n t => exact ⟨n ++ of t ++ [47], by simp [of]⟩

theorem within_iff {p q : List UInt8} (hp : goodB p = true) (hq : goodB q = true) : withinB p q = true ↔ parts q <+: parts p := by
  obtain ⟨ep, np, _⟩ := good_parts hp
  obtain ⟨eq, nq, _⟩ := good_parts hq
  unfold withinB
  rw [hp, hq, Bool.true_and, Bool.true_and, List.isPrefixOf_iff_prefix]
  conv => lhs; rw [ep, eq]
  exact within_names np nq

theorem good_inj {p q : List UInt8} (hp : goodB p = true) (hq : goodB q = true) (h : parts p = parts q) : p = q := by
  rw [(good_parts hp).1, (good_parts hq).1, h]

/-! ### Numbers behind a path -/

theorem nDigits_le : ∀ (k n : Nat), n < 10 ^ (k + 1) → Lib.nDigits n ≤ k + 1
  | 0, n, h => by rw [Lib.nDigits_small (by simpa using h)]; omega
  | k + 1, n, h => by
    by_cases hs : n < 10
    · rw [Lib.nDigits_small hs]; omega
    · rw [Lib.nDigits_big hs]
      have := nDigits_le k (n / 10) (by rw [Nat.pow_succ] at h; omega)
      omega

/-- A number's ten digits. -/
def dig10 (n : Nat) : List UInt8 := List.replicate (10 - (Lib.decDigits n).length) 48 ++ Lib.decDigits n

/-! ### Names joined -/

theorem join_of : ∀ (l : List (List UInt8)), l ≠ [] → 47 :: Lib.join l [47] = of l
  | [], h => absurd rfl h
  | [n], _ => by simp [Lib.join, of, List.intercalate]
  | n :: m :: t, _ => by
    have ih := join_of (m :: t) (by simp)
    have e : Lib.join (n :: m :: t) [47] = n ++ 47 :: Lib.join (m :: t) [47] := by
      simp [Lib.join, List.intercalate, List.intersperse]
    rw [e, ih]; rfl

theorem of_short : ∀ (l : List (List UInt8)), l.all nameB = true → (of l).length ≤ 41 * l.length
  | [], _ => by simp [of]
  | n :: t, h => by
    simp only [List.all_cons, Bool.and_eq_true] at h
    have ih := of_short t h.2
    have hn : n.length ≤ 40 := by
      have := h.1
      unfold nameB at this
      simp only [Bool.and_eq_true, decide_eq_true_eq] at this
      omega
    simp only [of, List.length_cons, List.length_append]
    omega

theorem join_short {l : List (List UInt8)} (h : namesB l = true) : (Lib.join l [47]).length ≤ 328 ∧ l ≠ [] ∧ l.length ≤ 8 := by
  have h8 := namesB_len h
  have hne : l ≠ [] := by intro e; rw [e] at h8; simp at h8
  have hall : l.all nameB = true := by
    unfold namesB at h
    simp only [Bool.and_eq_true] at h
    exact h.2
  have h1 := congrArg List.length (join_of l hne)
  have h2 := of_short l hall
  simp only [List.length_cons] at h1
  exact ⟨by omega, hne, h8.2⟩

/-- What Join tells: may the names be a path? -/
def joinB (l : List (List UInt8)) : Bool := namesB l && goodB (of l)
end Go.Proofs.YtpidafpaffpnaaaGreatDoor.Pl
namespace Go.Proofs.YtpidafpaffpnaaaGreatDoor.Pl

theorem deeper_parts {p s : List UInt8} (hp : goodB p = true) (hq : goodB (p ++ 47 :: s) = true) : parts (p ++ 47 :: s) = parts p ++ spl s := by
  have h1 : parts (p ++ 47 :: s) = spl ((p ++ 47 :: s).drop 1) := by unfold parts; rw [hq]; rfl
  have h2 : parts p = spl (p.drop 1) := by unfold parts; rw [hp]; rfl
  have e := (good_parts hp).1
  obtain ⟨x, ex, _⟩ := spl_drop_of (good_parts hp).2.1
  rw [ex] at e
  rw [h1, h2, e]
  exact spl_two x s

theorem spl_one {s : List UInt8} (h : (spl s).length = 1) : spl s = [s] := by
  obtain ⟨a, t, e⟩ := spl_form s
  rw [e] at h
  have ht : t = [] := List.length_eq_zero_iff.1 (by simpa using h)
  subst ht
  have := of_spl s
  rw [e, of, of, List.append_nil] at this
  have := (List.cons.inj this).2
  rw [e, this]

theorem deeper_len {p s : List UInt8} (hp : goodB p = true) (hq : goodB (p ++ 47 :: s) = true) : (parts p).length + 1 ≤ (parts (p ++ 47 :: s)).length := by
  rw [deeper_parts hp hq, List.length_append, spl_length]; omega

theorem deeper_in {p s : List UInt8} (hp : goodB p = true) (hq : goodB (p ++ 47 :: s) = true) : withinB (p ++ 47 :: s) p = true := by
  rw [within_iff hq hp, deeper_parts hp hq]; exact List.prefix_append _ _

theorem deeper_out {p s : List UInt8} (hp : goodB p = true) (hq : goodB (p ++ 47 :: s) = true) : withinB p (p ++ 47 :: s) = false := by
  cases h : withinB p (p ++ 47 :: s) with
  | false => rfl
  | true =>
    rw [within_iff hp hq] at h
    have := h.length_le
    have := deeper_len hp hq
    omega

theorem deeper_one {p s : List UInt8} (hp : goodB p = true) (hq : goodB (p ++ 47 :: s) = true) (h : (parts (p ++ 47 :: s)).length = (parts p).length + 1) : parent (p ++ 47 :: s) = p ∧ name (p ++ 47 :: s) = s := by
  have hs : spl s = [s] := spl_one (by rw [deeper_parts hp hq, List.length_append] at h; omega)
  have e := deeper_parts hp hq
  rw [hs] at e
  refine ⟨?_, ?_⟩
  · rw [parent, e, List.dropLast_concat]; exact (good_parts hp).1.symm
  · rw [name, e]; simp

theorem top_parent {p : List UInt8} (hp : goodB p = true) (h2 : 2 ≤ (parts p).length) : top (parent p) = top p := by
  rw [top, (good_parent hp h2).2, top]
  match h : parts p, h2 with
  | a :: b :: t, _ => rfl

theorem top_within {p q : List UInt8} (hp : goodB p = true) (hq : goodB q = true) (h : withinB p q = true) : top p = top q := by
  rw [within_iff hp hq] at h
  obtain ⟨t, e⟩ := h
  have h1 := namesB_len (good_parts hq).2.1
  rw [top, top, ← e]
  match parts q, h1 with
  | a :: b, _ => rfl

theorem apart_within {p q : List UInt8} (hp : goodB p = true) (hq : goodB q = true) (h : top p ≠ top q) : withinB p q = false := by
  cases hw : withinB p q with
  | false => rfl
  | true => exact absurd (top_within hp hq hw) h

theorem apart_parent {p q : List UInt8} (hp : goodB p = true) (h2 : 2 ≤ (parts p).length) (h : top p ≠ top q) : parent p ≠ q := by
  intro e
  exact h (by rw [← e, top_parent hp h2])
end Go.Proofs.YtpidafpaffpnaaaGreatDoor.Pl
namespace Go.Proofs.YtpidafpaffpnaaaGreatDoor.Pl

theorem spl_snoc_slash (a : List UInt8) : spl (a ++ [47]) = spl a ++ [[]] := spl_two a []

theorem spl_snoc_other {c : UInt8} (hc : c ≠ 47) : ∀ (a : List UInt8) (ys : List (List UInt8)) (y : List UInt8), spl a = ys ++ [y] → spl (a ++ [c]) = ys ++ [y ++ [c]]
  | [], ys, y, h => by
    have e : ([[]] : List (List UInt8)) = ys ++ [y] := h
    match ys, e with
    | [], e =>
      have hy : y = [] := by simpa using e.symm
      subst hy
      exact spl_other hc (l := []) (h := []) (t := []) rfl
    | _ :: t, e => simp at e
  | d :: a, ys, y, h => by
    obtain ⟨n, t, e⟩ := spl_form a
    by_cases hd : d = 47
    · subst hd
      rw [spl_slash] at h
      match ys, h with
      | [], h => have := congrArg List.length h; rw [e] at this; simp at this
      | z :: zs, h =>
        have h1 := List.cons.inj h
        rw [List.cons_append, spl_slash, spl_snoc_other hc a zs y h1.2, ← h1.1]; rfl
    · rw [spl_other hd e] at h
      match ys, h with
      | [], h =>
        have h1 := List.cons.inj h
        have ih := spl_snoc_other hc a [] n (by rw [e, h1.2]; rfl)
        rw [List.cons_append, spl_other hd ih, ← h1.1]; rfl
      | z :: zs, h =>
        have h1 := List.cons.inj h
        have ih := spl_snoc_other hc a (n :: zs) y (by rw [e, h1.2]; rfl)
        rw [List.cons_append, spl_other hd ih, ← h1.1]; rfl
end Go.Proofs.YtpidafpaffpnaaaGreatDoor.Pl
namespace Go.Proofs.YtpidafpaffpnaaaGreatDoor.Pk

/-- The byte of a number at a shift. -/
def byteAt (z : Int) (s : Nat) : UInt8 := UInt8.ofNat (z % 18446744073709551616 / 2 ^ s % 256).toNat
/-- A number's eight bytes, the highest first. -/
def be8 (z : Int) : List UInt8 := [byteAt z 56, byteAt z 48, byteAt z 40, byteAt z 32, byteAt z 24, byteAt z 16, byteAt z 8, byteAt z 0]
/-- A text: how many bytes, and they. -/
def txt (l : List UInt8) : List UInt8 := be8 l.length ++ l
/-- What bytes say, the highest first. -/
def val (l : List UInt8) : Nat := l.foldl (fun v c => v * 256 + c.toNat) 0
/-- The number with a sign that 64 bits say. -/
def sgn (n : Nat) : Int := if n < 9223372036854775808 then n else n - 18446744073709551616

theorem byteAt_nat (z : Int) (s : Nat) : ((byteAt z s).toNat : Int) = z % 18446744073709551616 / 2 ^ s % 256 := by
  unfold byteAt
  rw [UInt8.toNat_ofNat']
  have h := Int.emod_nonneg (z % 18446744073709551616 / 2 ^ s) (show (256 : Int) ≠ 0 by decide)
  have h2 := Int.emod_lt_of_pos (z % 18446744073709551616 / 2 ^ s) (show (0 : Int) < 256 by decide)
  omega

theorem val_snoc (l : List UInt8) (x : UInt8) : val (l ++ [x]) = val l * 256 + x.toNat := by
  unfold val; rw [List.foldl_append]; rfl

theorem fold_lt (l : List UInt8) : ∀ a : Nat, l.foldl (fun v c => v * 256 + c.toNat) a < (a + 1) * 256 ^ l.length := by
  induction l with
  | nil => intro a; simp
  | cons x l ih =>
    intro a
    rw [List.foldl_cons, List.length_cons, Nat.pow_succ]
    have h1 := ih (a * 256 + x.toNat)
    have h2 : (a * 256 + x.toNat + 1) * 256 ^ l.length ≤ (a + 1) * 256 * 256 ^ l.length := Nat.mul_le_mul_right _ (by have := x.toNat_lt; omega)
    have h3 : (a + 1) * (256 ^ l.length * 256) = (a + 1) * 256 * 256 ^ l.length := by rw [Nat.mul_comm (256 ^ l.length), Nat.mul_assoc]
    omega

theorem val_lt (l : List UInt8) : val l < 256 ^ l.length := by
  have := fold_lt l 0
  simpa [val] using this

theorem or_byte (t x : Nat) (hx : x < 256) : (t * 256) ||| x = t * 256 + x := by
  have h := Nat.two_pow_add_eq_or_of_lt (i := 8) (show x < 2 ^ 8 by omega) t
  rw [Nat.mul_comm t 256]
  exact h.symm

/-- A Reader's I64: the number, what is left, whether it is Bad. -/
def rI (xs : List UInt8) (bad : Bool) : Int × List UInt8 × Bool := if 8 ≤ xs.length then (sgn (val (xs.take 8)), xs.drop 8, bad) else (0, [], true)
/-- A Reader's Count. -/
def rC (m : Int) (xs : List UInt8) (bad : Bool) : Int × List UInt8 × Bool := if (rI xs bad).1 < 0 ∨ m < (rI xs bad).1 then (0, [], true) else rI xs bad
/-- A Reader's Text. -/
def rT (m : Int) (xs : List UInt8) (bad : Bool) : List UInt8 × List UInt8 × Bool :=
  if (rC m xs bad).1.toNat ≤ (rC m xs bad).2.1.length then ((rC m xs bad).2.1.take (rC m xs bad).1.toNat, (rC m xs bad).2.1.drop (rC m xs bad).1.toNat, (rC m xs bad).2.2) else ([], [], true)

theorem rC_nonneg (m : Int) (xs : List UInt8) (bad : Bool) : 0 ≤ (rC m xs bad).1 := by
  unfold rC; split
  · exact Int.le_refl _
  · rename_i h
    have : ¬ (rI xs bad).1 < 0 := fun e => h (Or.inl e)
    omega

theorem be8_len (z : Int) : (be8 z).length = 8 := rfl

theorem val_be8 (z : Int) : (val (be8 z) : Int) = z % 18446744073709551616 := by
  have h0 := byteAt_nat z 0
  have h1 := byteAt_nat z 8
  have h2 := byteAt_nat z 16
  have h3 := byteAt_nat z 24
  have h4 := byteAt_nat z 32
  have h5 := byteAt_nat z 40
  have h6 := byteAt_nat z 48
  have h7 := byteAt_nat z 56
  simp only [val, be8, List.foldl_cons, List.foldl_nil]
  omega

theorem sgn_be8 (z : Int) (h1 : -9223372036854775808 ≤ z) (h2 : z ≤ 9223372036854775807) : sgn (val (be8 z)) = z := by
  have h := val_be8 z
  unfold sgn
  split <;> omega

theorem rI_be8 (z : Int) (r : List UInt8) (bad : Bool) (h1 : -9223372036854775808 ≤ z) (h2 : z ≤ 9223372036854775807) : rI (be8 z ++ r) bad = (z, r, bad) := by
  unfold rI
  rw [if_pos (by rw [List.length_append, be8_len]; omega), List.take_left' (be8_len z), List.drop_left' (be8_len z), sgn_be8 z h1 h2]

theorem rC_be8 (m z : Int) (r : List UInt8) (bad : Bool) (h1 : 0 ≤ z) (h2 : z ≤ 9223372036854775807) (hm : z ≤ m) : rC m (be8 z ++ r) bad = (z, r, bad) := by
  unfold rC
  rw [rI_be8 z r bad (by omega) h2, if_neg (by simp; omega)]

theorem rT_txt (m : Int) (l r : List UInt8) (bad : Bool) (h2 : l.length ≤ 9223372036854775807) (hm : (l.length : Int) ≤ m) : rT m (txt l ++ r) bad = (l, r, bad) := by
  unfold rT txt
  rw [List.append_assoc, rC_be8 m l.length (l ++ r) bad (by omega) (by omega) hm]
  simp

theorem rT_txt' (m : Int) (l : List UInt8) (bad : Bool) (h2 : l.length ≤ 9223372036854775807) (hm : (l.length : Int) ≤ m) : rT m (txt l) bad = (l, [], bad) := by
  have := rT_txt m l [] bad h2 hm
  rwa [List.append_nil] at this

theorem be8_inj {a b : Int} (ha1 : -9223372036854775808 ≤ a) (ha2 : a ≤ 9223372036854775807) (hb1 : -9223372036854775808 ≤ b) (hb2 : b ≤ 9223372036854775807) (h : be8 a = be8 b) : a = b := by
  have h1 := sgn_be8 a ha1 ha2
  rw [h, sgn_be8 b hb1 hb2] at h1
  exact h1.symm

theorem fold_add (l : List UInt8) : ∀ a : Nat, l.foldl (fun v c => v * 256 + c.toNat) a = a * 256 ^ l.length + val l := by
  induction l with
  | nil => intro a; simp [val]
  | cons x l ih =>
    intro a
    have e : val (x :: l) = x.toNat * 256 ^ l.length + val l := by
      show l.foldl (fun v c => v * 256 + c.toNat) (0 * 256 + x.toNat) = _
      rw [ih]; simp
    rw [List.foldl_cons, ih, e, List.length_cons, Nat.pow_succ, Nat.add_mul, Nat.mul_assoc, Nat.mul_comm 256, Nat.add_assoc]

theorem val_cons (x : UInt8) (l : List UInt8) : val (x :: l) = x.toNat * 256 ^ l.length + val l := by
  show (x :: l).foldl _ 0 = _
  rw [List.foldl_cons, fold_add]
  simp

theorem less_val : ∀ (l m : List UInt8), l.length = m.length → Go.Op.bytesLess l m = decide (val l < val m)
  | [], [], _ => by simp [Go.Op.bytesLess]
  | [], _ :: _, h => by cases h
  | _ :: _, [], h => by cases h
  | x :: l, y :: m, h => by
    have hl : l.length = m.length := by simpa using h
    have ih := less_val l m hl
    have b1 := val_lt l
    have b2 := val_lt m
    rw [hl] at b1
    rw [Go.Op.bytesLess, ih, val_cons, val_cons, hl]
    have hp : 0 < 256 ^ m.length := Nat.pow_pos (by decide)
    rcases Nat.lt_trichotomy x.toNat y.toNat with hxy | hxy | hxy
    · have hk : (x.toNat + 1) * 256 ^ m.length ≤ y.toNat * 256 ^ m.length := Nat.mul_le_mul_right _ hxy
      rw [Nat.add_mul] at hk
      have h1 : x < y := hxy
      simp [h1]
      omega
    · have e : x = y := UInt8.toNat_inj.1 hxy
      subst e
      simp
    · have hk : (y.toNat + 1) * 256 ^ m.length ≤ x.toNat * 256 ^ m.length := Nat.mul_le_mul_right _ hxy
      rw [Nat.add_mul] at hk
      have h1 : ¬ x < y := by show ¬ x.toNat < y.toNat; omega
      have h2 : (x == y) = false := by
        have h3 : x ≠ y := fun e => by rw [e] at hxy; omega
        simpa using h3
      rw [h2]
      simp [h1]
      omega

theorem be8_less {a b : Int} (ha1 : 0 ≤ a) (ha2 : a ≤ 9223372036854775807) (hb1 : 0 ≤ b) (hb2 : b ≤ 9223372036854775807) : Go.Op.bytesLess (be8 a) (be8 b) = decide (a < b) := by
  rw [less_val (be8 a) (be8 b) rfl]
  have h1 := val_be8 a
  have h2 := val_be8 b
  exact decide_eq_decide.2 (by omega)
end Go.Proofs.YtpidafpaffpnaaaGreatDoor.Pk
namespace Go.Proofs.YtpidafpaffpnaaaGreatDoor
open Go.RowKit

/-- What is asked of one path. -/
structure O where
  kind : Int
  path : ByteArray
  data : ByteArray
  ver : Int
  flags : Int

/-- Its cells, and it as a value. -/
def oc (o : O) : List Value := [.int .i64 o.kind, .string o.path, .string o.data, .int .i64 o.ver, .int .i64 o.flags]
def ov (o : O) : Value := .agg #[.int .i64 o.kind, .string o.path, .string o.data, .int .i64 o.ver, .int .i64 o.flags]

/-- A value is a slice of Ops. -/
def Ol (w : World) (v : Value) (os : List O) : Prop := ∃ av k c, v = .slice av k c ∧ k = os.length ∧ k ≤ c ∧ (av = none → c = 0) ∧ ∀ (j : Nat) o, os[j]? = some o → ∃ g b, av = some ⟨g, b, none⟩ ∧ ∀ (i : Nat) u, (oc o)[i]? = some u → w.cell? ⟨g, b + (j * 5 + i), none⟩ = some u

theorem Ol.below {w w' : World} {v : Value} {os : List O} (h : Ol w v os) (hb : Below w.heap.size w w') : Ol w' v os := by
  obtain ⟨av, k, c, hv, hk, hc, hn, hs⟩ := h
  refine ⟨av, k, c, hv, hk, hc, hn, fun j o ho => ?_⟩
  obtain ⟨g, b, ha, hcell⟩ := hs j o ho
  exact ⟨g, b, ha, fun i u hu => Below.kept hb (hcell i u hu)⟩

/-- The cells of an Op in a list. -/
theorem Ol.at {w : World} {v : Value} {os : List O} (h : Ol w v os) (h0 : 0 < os.length) : ∃ g b c, v = .slice (some ⟨g, b, none⟩) os.length c ∧ ∀ (j : Nat) o, os[j]? = some o →
    w.cell? ⟨g, b + j * 5, none⟩ = some (.int .i64 o.kind) ∧ w.cell? ⟨g, b + j * 5 + 1, none⟩ = some (.string o.path) ∧ w.cell? ⟨g, b + j * 5 + 2, none⟩ = some (.string o.data) ∧ w.cell? ⟨g, b + j * 5 + 3, none⟩ = some (.int .i64 o.ver) ∧ w.cell? ⟨g, b + j * 5 + 4, none⟩ = some (.int .i64 o.flags) := by
  obtain ⟨av, k, c, rfl, hk, hc, hn, hs⟩ := h
  obtain ⟨g, b, rfl, _⟩ := hs 0 os[0] (List.getElem?_eq_getElem h0)
  refine ⟨g, b, c, by rw [hk], fun j o ho => ?_⟩
  obtain ⟨g', b', e, hcell⟩ := hs j o ho
  simp only [Option.some.injEq, Addr.mk.injEq, and_true] at e
  obtain ⟨rfl, rfl⟩ := e
  exact ⟨hcell 0 _ rfl, hcell 1 _ rfl, hcell 2 _ rfl, hcell 3 _ rfl, hcell 4 _ rfl⟩

/-- Is a list of Ops more than is asked of? -/
def greatB (os : List O) : Bool := decide (20 < os.length) || os.any fun o => decide (300 < o.path.size) || decide (1100 < o.data.size)

end Go.Proofs.YtpidafpaffpnaaaGreatDoor
namespace Go.Proofs.YtpidafpaffpnaaaGreatDoor.Kq

/-- Texts by their bytes. -/
def lt (a b : ByteArray) : Bool := Op.bytesLess a.toList b.toList
theorem less_irrefl : ∀ x : List UInt8, Op.bytesLess x x = false
  | [] => rfl
  | a :: x => by simp [Op.bytesLess, less_irrefl x]
theorem less_trans : ∀ {x y z : List UInt8}, Op.bytesLess x y = true → Op.bytesLess y z = true → Op.bytesLess x z = true
  | _, [], _, h, _ => by simp [Op.bytesLess] at h
  | _, _ :: _, [], _, h => by simp [Op.bytesLess] at h
  | [], _ :: _, _ :: _, _, _ => rfl
  | a :: x, b :: y, c :: z, h1, h2 => by
    simp only [Op.bytesLess, Bool.or_eq_true, decide_eq_true_eq, Bool.and_eq_true, beq_iff_eq] at h1 h2 ⊢
    rcases h1 with h1 | ⟨rfl, h1⟩
    · rcases h2 with h2 | ⟨rfl, h2⟩
      · exact Or.inl (UInt8.lt_trans h1 h2)
      · exact Or.inl h1
    · rcases h2 with h2 | ⟨rfl, h2⟩
      · exact Or.inl h2
      · exact Or.inr ⟨rfl, less_trans h1 h2⟩
theorem less_total : ∀ {x y : List UInt8}, Op.bytesLess x y = false → Op.bytesLess y x = false → x = y
  | [], [], _, _ => rfl
  | [], _ :: _, h, _ => by simp [Op.bytesLess] at h
  | _ :: _, [], _, h => by simp [Op.bytesLess] at h
  | a :: x, b :: y, h1, h2 => by
    simp only [Op.bytesLess, Bool.or_eq_false_iff, decide_eq_false_iff_not, Bool.and_eq_false_iff, beq_eq_false_iff_ne] at h1 h2
    have hab : a = b := by
      have h3 := h1.1
      have h4 := h2.1
      exact UInt8.le_antisymm (UInt8.not_lt.1 h4) (UInt8.not_lt.1 h3)
    subst hab
    rw [less_total (h1.2.resolve_left (fun h => h rfl)) (h2.2.resolve_left (fun h => h rfl))]
theorem lt_irrefl (a : ByteArray) : lt a a = false := less_irrefl _
theorem lt_trans {a b c : ByteArray} (h : lt a b = true) (k : lt b c = true) : lt a c = true := less_trans h k
theorem lt_total {a b : ByteArray} (h : lt a b = false) (k : lt b a = false) : a = b := bytes_eq (by rw [less_total h k]; simp)
theorem lt_asymm {a b : ByteArray} (h : lt a b = true) : lt b a = false := by
  cases k : lt b a with
  | false => rfl
  | true => rw [← lt_irrefl a]; exact (lt_trans h k).symm
theorem lt_ne {a b : ByteArray} (h : lt a b = true) : a ≠ b := fun e => by rw [e, lt_irrefl] at h; cases h

/-- A node. -/
structure Kn where
  made : Int
  changed : Int
  ver : Int
  kids : Int
  owner : Int
  len : Int
  cnt : Int
  data : ByteArray
  next : Int
  names : List ByteArray
def zero : Kn := ⟨0, 0, 0, 0, 0, 0, 0, ⟨#[]⟩, 0, []⟩
/-- One more, at most the greatest. -/
def more (n : Int) : Int := if 2147483647 ≤ n then n else n + 1
def new (z o : Int) (d : ByteArray) : Kn := ⟨z, z, 0, 0, o, (d.size : Int), 0, d, 0, []⟩
def write (n : Kn) (z : Int) (d : ByteArray) : Kn := { n with data := d, changed := z, ver := more n.ver, len := (d.size : Int) }
/-- Each is below those behind it. -/
def Rises (l : List ByteArray) : Prop := l.Pairwise fun a b => lt a b = true
def has (l : List ByteArray) (s : ByteArray) : Bool := l.any fun x => decide (x = s)
def low (l : List ByteArray) (s : ByteArray) : List ByteArray := l.takeWhile fun x => lt x s
def high (l : List ByteArray) (s : ByteArray) : List ByteArray := l.dropWhile fun x => lt x s
def ins (l : List ByteArray) (s : ByteArray) : List ByteArray := low l s ++ s :: high l s
def del (l : List ByteArray) (s : ByteArray) : List ByteArray := l.filter fun x => decide (x ≠ s)
def add (n : Kn) (s : ByteArray) : Kn := if has n.names s then n else { n with names := ins n.names s, kids := more n.kids, cnt := ((n.names.length + 1 : Nat) : Int), next := more n.next }
def remove (n : Kn) (s : ByteArray) : Kn := if has n.names s then { n with names := del n.names s, kids := more n.kids, cnt := ((n.names.length - 1 : Nat) : Int) } else n

theorem has_iff {l : List ByteArray} {s : ByteArray} : has l s = true ↔ s ∈ l := by unfold has; simp
theorem low_high (l : List ByteArray) (s : ByteArray) : low l s ++ high l s = l := List.takeWhile_append_dropWhile
theorem low_lt {l : List ByteArray} {s x : ByteArray} (h : x ∈ low l s) : lt x s = true := by
  unfold low at h
  induction l with
  | nil => simp at h
  | cons a l ih =>
    rw [List.takeWhile_cons] at h
    split at h
    · rename_i ha
      rcases List.mem_cons.1 h with rfl | h
      · exact ha
      · exact ih h
    · cases h
theorem high_ge {l : List ByteArray} {s x : ByteArray} (hr : Rises l) (h : x ∈ high l s) : lt x s = false := by
  unfold high at h
  induction l with
  | nil => simp at h
  | cons a l ih =>
    obtain ⟨h1, h2⟩ := List.pairwise_cons.1 hr
    rw [List.dropWhile_cons] at h
    split at h
    · exact ih h2 h
    · rename_i ha
      have ha' : lt a s = false := by simpa using ha
      rcases List.mem_cons.1 h with rfl | h
      · exact ha'
      · cases k : lt x s with
        | false => rfl
        | true =>
          have := lt_trans (h1 x h) k
          rw [this] at ha'
          cases ha'
/-- A name that is there is the first that is not below itself. -/
theorem high_first {l : List ByteArray} {s : ByteArray} (hr : Rises l) (h : s ∈ l) : ∃ r, high l s = s :: r ∧ s ∉ low l s ∧ s ∉ r := by
  have h1 : s ∉ low l s := fun h => by have := low_lt h; rw [lt_irrefl] at this; cases this
  have h2 : s ∈ high l s := by
    rw [← low_high l s] at h
    exact (List.mem_append.1 h).resolve_left h1
  cases hh : high l s with
  | nil => rw [hh] at h2; cases h2
  | cons a r =>
    have hrh : Rises (high l s) := by
      have := hr
      rw [← low_high l s] at this
      exact (List.pairwise_append.1 this).2.1
    rw [hh] at hrh h2
    obtain ⟨h3, h4⟩ := List.pairwise_cons.1 hrh
    have ha : lt a s = false := high_ge hr (by rw [hh]; simp)
    have e : a = s := by
      rcases List.mem_cons.1 h2 with e | h5
      · exact e.symm
      · rw [h3 s h5] at ha
        cases ha
    subst e
    exact ⟨r, rfl, h1, fun h5 => by have := h3 a h5; rw [lt_irrefl] at this; cases this⟩
theorem high_not {l : List ByteArray} {s : ByteArray} (hr : Rises l) (h : s ∉ l) : ∀ x ∈ high l s, lt s x = true := fun x hx => by
  cases k : lt s x with
  | true => rfl
  | false =>
    have h1 := high_ge hr hx
    have h2 := lt_total h1 k
    rw [h2] at hx
    exact absurd (by rw [← low_high l s]; exact List.mem_append.2 (Or.inr hx)) h
theorem rises_ins {l : List ByteArray} {s : ByteArray} (hr : Rises l) (h : s ∉ l) : Rises (ins l s) := by
  have h1 := hr
  rw [← low_high l s] at h1
  obtain ⟨h2, h3, h4⟩ := List.pairwise_append.1 h1
  unfold ins
  refine List.pairwise_append.2 ⟨h2, List.pairwise_cons.2 ⟨high_not hr h, h3⟩, fun a ha b hb => ?_⟩
  rcases List.mem_cons.1 hb with rfl | hb
  · exact low_lt ha
  · exact h4 a ha b hb
theorem rises_del {l : List ByteArray} (s : ByteArray) (hr : Rises l) : Rises (del l s) := hr.filter _
theorem mem_ins {l : List ByteArray} {s x : ByteArray} : x ∈ ins l s ↔ x = s ∨ x ∈ l := by
  unfold ins
  conv => rhs; rw [← low_high l s]
  simp only [List.mem_append, List.mem_cons]
  constructor
  · rintro (h | h | h)
    · exact Or.inr (Or.inl h)
    · exact Or.inl h
    · exact Or.inr (Or.inr h)
  · rintro (h | h | h)
    · exact Or.inr (Or.inl h)
    · exact Or.inl h
    · exact Or.inr (Or.inr h)
theorem mem_del {l : List ByteArray} {s x : ByteArray} : x ∈ del l s ↔ x ∈ l ∧ x ≠ s := by unfold del; simp
theorem len_ins (l : List ByteArray) (s : ByteArray) : (ins l s).length = l.length + 1 := by
  unfold ins
  conv => rhs; rw [← low_high l s]
  simp
  omega
/-- What is left where one goes: what is below it, and what is above. -/
theorem del_eq {l r : List ByteArray} {s : ByteArray} (hr : Rises l) (h : s ∈ l) (hh : high l s = s :: r) : del l s = low l s ++ r := by
  obtain ⟨r', h1, h2, h3⟩ := high_first hr h
  rw [hh] at h1
  simp only [List.cons.injEq, true_and] at h1
  subst h1
  unfold del
  conv => lhs; rw [← low_high l s, hh]
  rw [List.filter_append, List.filter_cons_of_neg (by simp), List.filter_eq_self.2, List.filter_eq_self.2]
  · intro x hx
    simp only [decide_eq_true_eq]
    exact fun e => h3 (e ▸ hx)
  · intro x hx
    simp only [decide_eq_true_eq]
    exact fun e => h2 (e ▸ hx)
theorem len_del {l : List ByteArray} {s : ByteArray} (hr : Rises l) (h : s ∈ l) : (del l s).length = l.length - 1 ∧ 0 < l.length := by
  obtain ⟨r, h1, _, _⟩ := high_first hr h
  have h2 := del_eq hr h h1
  have h3 := congrArg List.length (low_high l s)
  rw [h1] at h3
  simp at h3
  rw [h2]
  simp
  omega
theorem rises_add {n : Kn} (s : ByteArray) (h : Rises n.names) : Rises (add n s).names := by
  unfold add
  split
  · exact h
  · rename_i hs
    exact rises_ins h (fun e => hs (has_iff.2 e))
theorem rises_remove {n : Kn} (s : ByteArray) (h : Rises n.names) : Rises (remove n s).names := by
  unfold remove
  split
  · exact rises_del s h
  · exact h
theorem add_yes {n : Kn} {s : ByteArray} (h : has n.names s = false) : add n s = { n with names := ins n.names s, kids := more n.kids, cnt := ((n.names.length + 1 : Nat) : Int), next := more n.next } := by unfold add; rw [h]; rfl
theorem add_no {n : Kn} {s : ByteArray} (h : has n.names s = true) : add n s = n := by unfold add; rw [if_pos h]
theorem remove_yes {n : Kn} {s : ByteArray} (h : has n.names s = true) : remove n s = { n with names := del n.names s, kids := more n.kids, cnt := ((n.names.length - 1 : Nat) : Int) } := by unfold remove; rw [if_pos h]
theorem remove_no {n : Kn} {s : ByteArray} (h : has n.names s = false) : remove n s = n := by unfold remove; rw [h]; rfl
theorem len_add (n : Kn) (s : ByteArray) : (add n s).names.length ≤ n.names.length + 1 := by
  unfold add
  split
  · omega
  · show (ins n.names s).length ≤ _
    rw [len_ins]
    omega
theorem len_remove (n : Kn) (s : ByteArray) : (remove n s).names.length ≤ n.names.length := by
  unfold remove
  split
  · exact List.length_filter_le _ _
  · omega
/-- Two rising lists of the same texts are one. -/
theorem rises_eq : ∀ {a b : List ByteArray}, Rises a → Rises b → (∀ x, x ∈ a ↔ x ∈ b) → a = b
  | [], [], _, _, _ => rfl
  | [], y :: b, _, _, h => by have := (h y).2 (by simp); cases this
  | x :: a, [], _, _, h => by have := (h x).1 (by simp); cases this
  | x :: a, y :: b, ha, hb, h => by
    have hna : x ∉ a := fun hx => lt_ne ((List.pairwise_cons.1 ha).1 x hx) rfl
    have hnb : y ∉ b := fun hx => lt_ne ((List.pairwise_cons.1 hb).1 y hx) rfl
    have hxy : x = y := by
      apply Classical.byContradiction
      intro hne
      have h1 : lt y x = true := by
        rcases List.mem_cons.1 ((h x).1 (by simp)) with e | hm
        · exact absurd e hne
        · exact (List.pairwise_cons.1 hb).1 x hm
      have h2 : lt x y = true := by
        rcases List.mem_cons.1 ((h y).2 (by simp)) with e | hm
        · exact absurd e.symm hne
        · exact (List.pairwise_cons.1 ha).1 y hm
      rw [lt_asymm h1] at h2
      cases h2
    subst hxy
    rw [rises_eq (List.pairwise_cons.1 ha).2 (List.pairwise_cons.1 hb).2 (fun z => ?_)]
    constructor
    · intro hz
      rcases List.mem_cons.1 ((h z).1 (List.mem_cons_of_mem _ hz)) with rfl | hm
      · exact absurd hz hna
      · exact hm
    · intro hz
      rcases List.mem_cons.1 ((h z).2 (List.mem_cons_of_mem _ hz)) with rfl | hm
      · exact absurd hz hnb
      · exact hm
end Go.Proofs.YtpidafpaffpnaaaGreatDoor.Kq
namespace Go.Proofs.YtpidafpaffpnaaaGreatDoor.Oq

/-- What is refused first. -/
def headB (o : O) : Bool := decide (o.kind < 1) || decide (7 < o.kind) || !Pl.goodB o.path.data.toList || decide (o.ver < -1) || decide (o.flags < 0) || decide (3 < o.flags)
/-- It has what its kind has not. -/
def hasB (o : O) : Bool := (decide (o.data.size ≠ 0) && decide (o.kind ≠ 1) && decide (o.kind ≠ 3)) || (decide (o.ver ≠ 0) && decide (o.kind ≠ 2) && decide (o.kind ≠ 3) && decide (o.kind ≠ 4)) || (decide (o.flags ≠ 0) && decide (o.kind ≠ 1))
/-- A sequential Create that may not be. -/
def seqB (o : O) : Bool := decide (o.kind = 1) && decide (2 ≤ o.flags) && (decide ((Pl.parts o.path.data.toList).length = 1) || !Pl.goodB (o.path.data.toList ++ Pl.dig10 0))
/-- Good: its error. -/
def good (o : O) : Int := if headB o then 1 else if 1000 < o.data.size then 2 else if hasB o then 1 else if seqB o then 1 else 0

/-- The first error. -/
def firstBad : List O → Int
  | [] => 0
  | o :: os => if good o = 0 then firstBad os else good o
/-- May: its error. -/
def may (s n : Int) (os : List O) : Int :=
  if s < 1 ∨ n < 1 ∨ os.length = 0 then 1 else if 16 < os.length then 2 else if firstBad os ≠ 0 then firstBad os else if 1 < os.length ∧ os.any (fun o => decide (5 ≤ o.kind)) = true then 1 else 0
/-- One Op's bytes. -/
def obytes (o : O) : List UInt8 := Pk.be8 o.kind ++ Pk.txt o.path.data.toList ++ Pk.txt o.data.data.toList ++ Pk.be8 o.ver ++ Pk.be8 o.flags
def bytes (s n : Int) (os : List O) : List UInt8 := Pk.be8 s ++ Pk.be8 n ++ Pk.be8 (os.length : Int) ++ os.flatMap obytes
/-- Put. -/
def put (s n : Int) (os : List O) : List UInt8 := if may s n os = 0 then bytes s n os else []
def writes (os : List O) : Bool := os.any fun o => decide (o.kind = 1) || decide (o.kind = 2) || decide (o.kind = 3)

theorem firstBad_app (a b : List O) (h : firstBad a = 0) : firstBad (a ++ b) = firstBad b := by
  induction a with
  | nil => rfl
  | cons o a ih =>
    simp only [firstBad, List.cons_append] at h ⊢
    split at h
    · rename_i h0
      rw [if_pos h0]
      exact ih h
    · rename_i h0
      exact absurd h h0

theorem firstBad_take {os : List O} {k : Nat} {o : O} (h : os[k]? = some o) (h0 : firstBad (os.take k) = 0) : (good o ≠ 0 → firstBad os = good o) ∧ (good o = 0 → firstBad (os.take (k + 1)) = 0) := by
  have hk : k < os.length := (List.getElem?_eq_some_iff.1 h).1
  constructor
  · intro hg
    have e : os = os.take k ++ o :: os.drop (k + 1) := by
      have h1 := List.take_append_drop k os
      rw [List.drop_eq_getElem_cons hk, (List.getElem?_eq_some_iff.1 h).2] at h1
      exact h1.symm
    rw [e, firstBad_app _ _ h0, firstBad, if_neg hg]
  · intro hg
    rw [List.take_add_one, h, firstBad_app _ _ h0]
    simp [firstBad, hg]

theorem good_head {o : O} (h : headB o = true) : good o = 1 := by unfold good; rw [if_pos h]
theorem good_long {o : O} (h : headB o = false) (hd : 1000 < o.data.size) : good o = 2 := by unfold good; rw [h, if_pos hd]; rfl
theorem good_has {o : O} (h : headB o = false) (hd : ¬ 1000 < o.data.size) (h2 : hasB o = true) : good o = 1 := by unfold good; rw [h, if_neg hd, h2]; rfl
theorem good_seq {o : O} (h : headB o = false) (hd : ¬ 1000 < o.data.size) (h2 : hasB o = false) : good o = if seqB o then 1 else 0 := by unfold good; rw [h, if_neg hd, h2]; rfl

theorem head_no {o : O} (h : headB o = false) : 1 ≤ o.kind ∧ o.kind ≤ 7 ∧ Pl.goodB o.path.data.toList = true ∧ -1 ≤ o.ver ∧ 0 ≤ o.flags ∧ o.flags ≤ 3 := by
  unfold headB at h
  simp only [Bool.or_eq_false_iff, decide_eq_false_iff_not, Bool.not_eq_false'] at h
  exact ⟨by omega, by omega, h.1.1.1.2, by omega, by omega, by omega⟩

/-- 'o.Flags & 2'. -/
theorem and2 (f : Int) (h0 : 0 ≤ f) (h3 : f ≤ 3) : bits .and .i64 f 2 = if 2 ≤ f then 2 else 0 := by
  have h : f = 0 ∨ f = 1 ∨ f = 2 ∨ f = 3 := by omega
  rcases h with rfl | rfl | rfl | rfl <;> decide
end Go.Proofs.YtpidafpaffpnaaaGreatDoor.Oq
namespace Go.Proofs.YtpidafpaffpnaaaGreatDoor

/-- What one Op is answered. -/
structure X where
  err : Int
  path : ByteArray
  data : ByteArray
  names : List ByteArray
  made : Int
  changed : Int
  ver : Int
  kids : Int
  owner : Int
  len : Int
  cnt : Int

/-- A reply. -/
structure Rp where
  num : Int
  zxid : Int
  err : Int
  at_ : Int
  xs : List X

namespace Rq

/-- A number of 64 bits. -/
def Rng (z : Int) : Prop := -9223372036854775808 ≤ z ∧ z ≤ 9223372036854775807

/-- Numbers of 64 bits, texts that can be. -/
structure Fit (x : X) : Prop where
  err : Rng x.err
  made : Rng x.made
  changed : Rng x.changed
  ver : Rng x.ver
  kids : Rng x.kids
  owner : Rng x.owner
  len : Rng x.len
  cnt : Rng x.cnt
  path : x.path.size ≤ 9223372036854775807
  data : x.data.size ≤ 9223372036854775807
  count : x.names.length ≤ 9223372036854775807
  texts : ∀ t ∈ x.names, t.size ≤ 9223372036854775807

/-- The texts of a list. -/
def tbytes (ts : List ByteArray) : List UInt8 := ts.flatMap fun t => Pk.txt t.data.toList
/-- The Stat's bytes. -/
def sbytes (x : X) : List UInt8 := Pk.be8 x.made ++ Pk.be8 x.changed ++ Pk.be8 x.ver ++ Pk.be8 x.kids ++ Pk.be8 x.owner ++ Pk.be8 x.len ++ Pk.be8 x.cnt
/-- One result's bytes. -/
def xbytes (x : X) : List UInt8 := Pk.be8 x.err ++ Pk.txt x.path.data.toList ++ Pk.txt x.data.data.toList ++ Pk.be8 (x.names.length : Int) ++ tbytes x.names ++ sbytes x
/-- Put. -/
def bytes (r : Rp) : List UInt8 := Pk.be8 r.num ++ Pk.be8 r.zxid ++ Pk.be8 r.err ++ Pk.be8 r.at_ ++ Pk.be8 (r.xs.length : Int) ++ r.xs.flatMap xbytes

theorem be8_app {z z' : Int} {t t' : List UInt8} (h : Pk.be8 z ++ t = Pk.be8 z' ++ t') (hz : Rng z) (hz' : Rng z') : z = z' ∧ t = t' := by
  obtain ⟨h1, h2⟩ := List.append_inj h (by rw [Pk.be8_len, Pk.be8_len])
  exact ⟨Pk.be8_inj hz.1 (by have := hz.2; omega) hz'.1 (by have := hz'.2; omega) h1, h2⟩

theorem txt_app {l l' t t' : List UInt8} (h : Pk.txt l ++ t = Pk.txt l' ++ t') (hl : l.length ≤ 9223372036854775807) (hl' : l'.length ≤ 9223372036854775807) : l = l' ∧ t = t' := by
  unfold Pk.txt at h
  rw [List.append_assoc, List.append_assoc] at h
  obtain ⟨h1, h2⟩ := be8_app h ⟨by omega, by omega⟩ ⟨by omega, by omega⟩
  exact List.append_inj h2 (by omega)

theorem bytes_ext {a b : ByteArray} (h : a.data.toList = b.data.toList) : a = b := by
  obtain ⟨⟨x⟩⟩ := a
  obtain ⟨⟨y⟩⟩ := b
  have : x = y := h
  rw [this]

theorem tbytes_app : ∀ {a b : List ByteArray} {t t' : List UInt8}, a.length = b.length → (∀ x ∈ a, x.size ≤ 9223372036854775807) → (∀ x ∈ b, x.size ≤ 9223372036854775807) → tbytes a ++ t = tbytes b ++ t' → a = b ∧ t = t'
  | [], [], _, _, _, _, _, h => ⟨rfl, by simpa [tbytes] using h⟩
  | x :: a, y :: b, t, t', hl, ha, hb, h => by
    unfold tbytes at h
    rw [List.flatMap_cons, List.flatMap_cons, List.append_assoc, List.append_assoc] at h
    obtain ⟨e, h2⟩ := txt_app h (ha x (by simp)) (hb y (by simp))
    obtain ⟨e2, h3⟩ := tbytes_app (a := a) (b := b) (by simpa using hl) (fun z hz => ha z (by simp [hz])) (fun z hz => hb z (by simp [hz])) h2
    exact ⟨by rw [bytes_ext e, e2], h3⟩

theorem xbytes_app {x y : X} {t t' : List UInt8} (h : xbytes x ++ t = xbytes y ++ t') (hx : Fit x) (hy : Fit y) : x = y ∧ t = t' := by
  unfold xbytes sbytes at h
  simp only [List.append_assoc] at h
  obtain ⟨e1, h⟩ := be8_app h hx.err hy.err
  obtain ⟨e2, h⟩ := txt_app h hx.path hy.path
  obtain ⟨e3, h⟩ := txt_app h hx.data hy.data
  have c1 := hx.count
  have c2 := hy.count
  obtain ⟨e4, h⟩ := be8_app h ⟨by omega, by omega⟩ ⟨by omega, by omega⟩
  obtain ⟨e5, h⟩ := tbytes_app (by omega) hx.texts hy.texts h
  obtain ⟨e6, h⟩ := be8_app h hx.made hy.made
  obtain ⟨e7, h⟩ := be8_app h hx.changed hy.changed
  obtain ⟨e8, h⟩ := be8_app h hx.ver hy.ver
  obtain ⟨e9, h⟩ := be8_app h hx.kids hy.kids
  obtain ⟨e10, h⟩ := be8_app h hx.owner hy.owner
  obtain ⟨e11, h⟩ := be8_app h hx.len hy.len
  obtain ⟨e12, h⟩ := be8_app h hx.cnt hy.cnt
  refine ⟨?_, h⟩
  obtain ⟨a1, a2, a3, a4, a5, a6, a7, a8, a9, a10, a11⟩ := x
  obtain ⟨b1, b2, b3, b4, b5, b6, b7, b8, b9, b10, b11⟩ := y
  simp only [] at e1 e2 e3 e5 e6 e7 e8 e9 e10 e11 e12
  have e2' := bytes_ext e2
  have e3' := bytes_ext e3
  subst e1 e2' e3' e5 e6 e7 e8 e9 e10 e11 e12
  rfl

theorem flat_inj : ∀ {xs ys : List X}, xs.length = ys.length → (∀ x ∈ xs, Fit x) → (∀ x ∈ ys, Fit x) → xs.flatMap xbytes = ys.flatMap xbytes → xs = ys
  | [], [], _, _, _, _ => rfl
  | x :: xs, y :: ys, hl, hf, hf', h => by
    rw [List.flatMap_cons, List.flatMap_cons] at h
    obtain ⟨rfl, h2⟩ := xbytes_app h (hf x (by simp)) (hf' y (by simp))
    rw [flat_inj (by simpa using hl) (fun z hz => hf z (by simp [hz])) (fun z hz => hf' z (by simp [hz])) h2]

/-- Numbers of 64 bits, texts that can be, throughout. -/
structure FitR (r : Rp) : Prop where
  num : Rng r.num
  zxid : Rng r.zxid
  err : Rng r.err
  at_ : Rng r.at_
  count : r.xs.length ≤ 9223372036854775807
  xs : ∀ x ∈ r.xs, Fit x

/-- Unlike replies have unlike bytes. -/
theorem bytes_inj {r q : Rp} (h : bytes r = bytes q) (hr : FitR r) (hq : FitR q) : r = q := by
  unfold bytes at h
  simp only [List.append_assoc] at h
  obtain ⟨e1, h⟩ := be8_app h hr.num hq.num
  obtain ⟨e2, h⟩ := be8_app h hr.zxid hq.zxid
  obtain ⟨e3, h⟩ := be8_app h hr.err hq.err
  obtain ⟨e4, h⟩ := be8_app h hr.at_ hq.at_
  have c1 := hr.count
  have c2 := hq.count
  obtain ⟨e5, h⟩ := be8_app h ⟨by omega, by omega⟩ ⟨by omega, by omega⟩
  have e6 := flat_inj (by omega) hr.xs hq.xs h
  obtain ⟨a1, a2, a3, a4, a5⟩ := r
  obtain ⟨b1, b2, b3, b4, b5⟩ := q
  simp only [] at e1 e2 e3 e4 e6
  subst e1 e2 e3 e4 e6
  rfl

/-- Small enough to be read. -/
structure Small (x : X) : Prop where
  path : x.path.size ≤ 20000
  data : x.data.size ≤ 20000
  count : x.names.length ≤ 500
  texts : ∀ t ∈ x.names, t.size ≤ 20000

/-- Bytes are just those of such a reply. -/
structure Is (b : List UInt8) (r : Rp) : Prop where
  eq : bytes r = b
  fit : FitR r
  few : r.xs.length ≤ 16
  small : ∀ x ∈ r.xs, Small x

theorem is_inj {b : List UInt8} {r q : Rp} (h : Is b r) (k : Is b q) : r = q := bytes_inj (h.eq.trans k.eq.symm) h.fit k.fit

/-! What was read well was written so. -/

theorem rng_sgn {n : Nat} (h : n < 18446744073709551616) : Rng (Pk.sgn n) := by
  unfold Pk.sgn Rng
  constructor <;> split <;> omega

theorem val8 {l : List UInt8} (h : l.length = 8) : Pk.val l < 18446744073709551616 := by
  have h1 := Pk.val_lt l
  rw [h] at h1
  exact h1

theorem rI_rng (ys : List UInt8) (bad : Bool) : Rng (Pk.rI ys bad).1 := by
  unfold Pk.rI
  split
  · rename_i h
    exact rng_sgn (val8 (by rw [List.length_take]; omega))
  · exact ⟨by decide, by decide⟩

theorem byte_lt (x : UInt8) : x.toNat < 256 := x.toNat_lt

/-- Eight bytes are those of their number. -/
theorem be8_val : ∀ {l : List UInt8}, l.length = 8 → Pk.be8 (Pk.val l : Int) = l
  | [a, b, c, d, e, f, g, h], _ => by
    have ha := byte_lt a
    have hb := byte_lt b
    have hc := byte_lt c
    have hd := byte_lt d
    have he := byte_lt e
    have hf := byte_lt f
    have hg := byte_lt g
    have hh := byte_lt h
    have hv : Pk.val [a, b, c, d, e, f, g, h] = ((((((a.toNat * 256 + b.toNat) * 256 + c.toNat) * 256 + d.toNat) * 256 + e.toNat) * 256 + f.toNat) * 256 + g.toNat) * 256 + h.toNat := by
      simp [Pk.val]
    have key : ∀ (s : Nat) (x : UInt8), (((Pk.val [a, b, c, d, e, f, g, h] : Nat) : Int) % 18446744073709551616 / 2 ^ s % 256).toNat = x.toNat → Pk.byteAt ((Pk.val [a, b, c, d, e, f, g, h] : Nat) : Int) s = x := fun s x hx => by
      unfold Pk.byteAt
      rw [hx]
      exact UInt8.ofNat_toNat
    unfold Pk.be8
    rw [key 56 a, key 48 b, key 40 c, key 32 d, key 24 e, key 16 f, key 8 g, key 0 h]
    all_goals
      rw [hv]
      omega

theorem be8_sgn (n : Nat) : Pk.be8 (Pk.sgn n) = Pk.be8 (n : Int) := by
  unfold Pk.sgn
  split
  · rfl
  · have e : ∀ s, Pk.byteAt ((n : Int) - 18446744073709551616) s = Pk.byteAt (n : Int) s := fun s => by
      unfold Pk.byteAt
      have : ((n : Int) - 18446744073709551616) % 18446744073709551616 = (n : Int) % 18446744073709551616 := by omega
      rw [this]
    unfold Pk.be8
    simp only [e]

/-- A number that was read well stood there. -/
theorem rI_inv {ys : List UInt8} {bad : Bool} (h : (Pk.rI ys bad).2.2 = false) : bad = false ∧ ys = Pk.be8 (Pk.rI ys bad).1 ++ (Pk.rI ys bad).2.1 := by
  unfold Pk.rI at h ⊢
  split at h
  · rename_i h8
    rw [if_pos h8]
    simp only [] at h ⊢
    refine ⟨h, ?_⟩
    have hl : (ys.take 8).length = 8 := by rw [List.length_take]; omega
    rw [be8_sgn, be8_val hl, List.take_append_drop]
  · cases h

theorem rC_inv {m : Int} {ys : List UInt8} {bad : Bool} (h : (Pk.rC m ys bad).2.2 = false) : bad = false ∧ ys = Pk.be8 (Pk.rC m ys bad).1 ++ (Pk.rC m ys bad).2.1 ∧ 0 ≤ (Pk.rC m ys bad).1 ∧ (Pk.rC m ys bad).1 ≤ m := by
  unfold Pk.rC at h ⊢
  split at h
  · cases h
  · rename_i hc
    rw [if_neg hc]
    obtain ⟨h1, h2⟩ := rI_inv h
    exact ⟨h1, h2, by omega, by omega⟩

theorem rT_inv {m : Int} {ys : List UInt8} {bad : Bool} (h : (Pk.rT m ys bad).2.2 = false) : bad = false ∧ ys = Pk.txt (Pk.rT m ys bad).1 ++ (Pk.rT m ys bad).2.1 ∧ ((Pk.rT m ys bad).1.length : Int) ≤ m := by
  unfold Pk.rT at h ⊢
  split at h
  · rename_i hc
    rw [if_pos hc]
    simp only [] at h ⊢
    obtain ⟨h1, h2, h3, h4⟩ := rC_inv h
    generalize Pk.rC m ys bad = c at *
    have hl : (c.2.1.take c.1.toNat).length = c.1.toNat := by rw [List.length_take]; omega
    refine ⟨h1, ?_, by rw [hl]; omega⟩
    unfold Pk.txt
    rw [hl, show ((c.1.toNat : Nat) : Int) = c.1 by omega, List.append_assoc, List.take_append_drop]
    exact h2
  · cases h
end Rq
end Go.Proofs.YtpidafpaffpnaaaGreatDoor
namespace Go.Proofs.YtpidafpaffpnaaaGreatDoor.Kq

def tx (s : ByteArray) : List UInt8 := Pk.txt s.data.toList
def bytes (n : Kn) : List UInt8 := Pk.be8 n.made ++ (Pk.be8 n.changed ++ (Pk.be8 n.ver ++ (Pk.be8 n.kids ++ (Pk.be8 n.owner ++ (Pk.be8 n.next ++ (tx n.data ++ (Pk.be8 (n.names.length : Int) ++ n.names.flatMap tx)))))))
/-- So many names are read. -/
def rdNs : Nat → List UInt8 → Bool → List ByteArray × List UInt8 × Bool
  | 0, ys, bad => ([], ys, bad)
  | k + 1, ys, bad => if bad then ([], ys, bad) else (⟨(Pk.rT 40 ys bad).1.toArray⟩ :: (rdNs k (Pk.rT 40 ys bad).2.1 (Pk.rT 40 ys bad).2.2).1, (rdNs k (Pk.rT 40 ys bad).2.1 (Pk.rT 40 ys bad).2.2).2)
/-- A node is read; what is left; was it there? -/
def raw (ys : List UInt8) (bad : Bool) : Kn × List UInt8 × Bool :=
  let a := Pk.rI ys bad
  let b := Pk.rI a.2.1 a.2.2
  let c := Pk.rC 2147483647 b.2.1 b.2.2
  let d := Pk.rC 2147483647 c.2.1 c.2.2
  let e := Pk.rI d.2.1 d.2.2
  let f := Pk.rC 2147483647 e.2.1 e.2.2
  let g := Pk.rT 1000 f.2.1 f.2.2
  let h := Pk.rC 500 g.2.1 g.2.2
  let i := rdNs h.1.toNat h.2.1 h.2.2
  (⟨a.1, b.1, c.1, d.1, e.1, (g.1.length : Int), (i.1.length : Int), ⟨g.1.toArray⟩, f.1, i.1⟩, i.2.1, i.2.2)
/-- It is one. -/
def Good (ys : List UInt8) (bad : Bool) : Prop := (raw ys bad).2.2 = false ∧ Rises (raw ys bad).1.names

/-- A node that Get may tell. -/
structure Fit (n : Kn) : Prop where
  made : -9223372036854775808 ≤ n.made ∧ n.made ≤ 9223372036854775807
  changed : -9223372036854775808 ≤ n.changed ∧ n.changed ≤ 9223372036854775807
  ver : 0 ≤ n.ver ∧ n.ver ≤ 2147483647
  kids : 0 ≤ n.kids ∧ n.kids ≤ 2147483647
  owner : -9223372036854775808 ≤ n.owner ∧ n.owner ≤ 9223372036854775807
  next : 0 ≤ n.next ∧ n.next ≤ 2147483647
  data : n.data.size ≤ 1000
  many : n.names.length ≤ 500
  long : ∀ s ∈ n.names, s.size ≤ 40
  len : n.len = (n.data.size : Int)
  cnt : n.cnt = (n.names.length : Int)
  rises : Rises n.names
theorem size_data (s : ByteArray) : s.data.toList.length = s.size := by rw [Array.length_toList]; rfl
theorem back (s : ByteArray) : (⟨s.data.toList.toArray⟩ : ByteArray) = s := by cases s; simp
theorem rdNs_flat : ∀ (l : List ByteArray) (t : List UInt8), (∀ s ∈ l, s.size ≤ 40) → rdNs l.length (l.flatMap tx ++ t) false = (l, t, false)
  | [], t, _ => rfl
  | s :: l, t, h => by
    have h1 := h s (by simp)
    have e : (s :: l).flatMap tx ++ t = tx s ++ (l.flatMap tx ++ t) := by rw [List.flatMap_cons, List.append_assoc]
    have hr : Pk.rT 40 (tx s ++ (l.flatMap tx ++ t)) false = (s.data.toList, l.flatMap tx ++ t, false) := Pk.rT_txt 40 _ _ false (by rw [size_data]; omega) (by rw [size_data]; omega)
    rw [e, List.length_cons, rdNs, if_neg (by simp), hr]
    simp only []
    rw [rdNs_flat l t (fun x hx => h x (by simp [hx])), back]
theorem raw_bytes {n : Kn} (h : Fit n) (t : List UInt8) : raw (bytes n ++ t) false = (n, t, false) := by
  have hd := size_data n.data
  have hdl := h.data
  have hm := h.many
  have e : bytes n ++ t = Pk.be8 n.made ++ (Pk.be8 n.changed ++ (Pk.be8 n.ver ++ (Pk.be8 n.kids ++ (Pk.be8 n.owner ++ (Pk.be8 n.next ++ (tx n.data ++ (Pk.be8 (n.names.length : Int) ++ (n.names.flatMap tx ++ t)))))))) := by
    unfold bytes
    simp only [List.append_assoc]
  have h7 : Pk.rT 1000 (tx n.data ++ (Pk.be8 (n.names.length : Int) ++ (n.names.flatMap tx ++ t))) false = (n.data.data.toList, Pk.be8 (n.names.length : Int) ++ (n.names.flatMap tx ++ t), false) := Pk.rT_txt 1000 _ _ false (by omega) (by omega)
  unfold raw
  rw [e]
  simp only [Pk.rI_be8 n.made _ false h.made.1 h.made.2, Pk.rI_be8 n.changed _ false h.changed.1 h.changed.2, Pk.rC_be8 2147483647 n.ver _ false h.ver.1 (by have := h.ver.2; omega) h.ver.2, Pk.rC_be8 2147483647 n.kids _ false h.kids.1 (by have := h.kids.2; omega) h.kids.2, Pk.rI_be8 n.owner _ false h.owner.1 h.owner.2, Pk.rC_be8 2147483647 n.next _ false h.next.1 (by have := h.next.2; omega) h.next.2, h7, Pk.rC_be8 500 (n.names.length : Int) _ false (by omega) (by omega) (by omega), Int.toNat_natCast, rdNs_flat n.names t h.long, hd, back]
  rw [← h.len, ← h.cnt]
theorem good_bytes {n : Kn} (h : Fit n) (t : List UInt8) : Good (bytes n ++ t) false := by
  unfold Good
  rw [raw_bytes h t]
  exact ⟨rfl, h.rises⟩
theorem bytes_inj {a b : Kn} (ha : Fit a) (hb : Fit b) (h : bytes a = bytes b) : a = b := by
  have h1 := raw_bytes ha []
  have h2 := raw_bytes hb []
  rw [h, h2] at h1
  exact (congrArg Prod.fst h1).symm
theorem tx_len (s : ByteArray) : (tx s).length = 8 + s.size := by unfold tx Pk.txt; rw [List.length_append, Pk.be8_len, size_data]
theorem flat_le : ∀ (l : List ByteArray) (m : Nat), (∀ s ∈ l, s.size ≤ m) → (l.flatMap tx).length ≤ l.length * (8 + m)
  | [], m, _ => by simp
  | s :: l, m, h => by
    have h1 := h s (by simp)
    have h2 := flat_le l m (fun x hx => h x (by simp [hx]))
    rw [List.flatMap_cons, List.length_append, tx_len, List.length_cons, Nat.add_mul]
    omega
theorem bytes_len (n : Kn) : (bytes n).length = 64 + n.data.size + (n.names.flatMap tx).length := by
  unfold bytes
  simp only [List.length_append, Pk.be8_len, tx_len]
  omega
theorem good_none : ¬ Good [] false := fun h => by cases h.1
end Go.Proofs.YtpidafpaffpnaaaGreatDoor.Kq
namespace Go.Proofs.YtpidafpaffpnaaaGreatDoor
open Go.RowKit

/-- A node's cells; its names lie elsewhere. -/
def k10 (n : Kq.Kn) (v : Value) : List Value := [.int .i64 n.made, .int .i64 n.changed, .int .i64 n.ver, .int .i64 n.kids, .int .i64 n.owner, .int .i64 n.len, .int .i64 n.cnt, .string n.data, .int .i64 n.next, v]
def kv (n : Kq.Kn) (v : Value) : Value := .agg #[.int .i64 n.made, .int .i64 n.changed, .int .i64 n.ver, .int .i64 n.kids, .int .i64 n.owner, .int .i64 n.len, .int .i64 n.cnt, .string n.data, .int .i64 n.next, v]
/-- Numbers that an int may hold; not too many names, none too long. -/
structure Fine10 (n : Kq.Kn) : Prop where
  ver : -9223372036854775808 ≤ n.ver ∧ n.ver ≤ 9223372036854775807
  kids : -9223372036854775808 ≤ n.kids ∧ n.kids ≤ 9223372036854775807
  next : -9223372036854775808 ≤ n.next ∧ n.next ≤ 9223372036854775807
  many : n.names.length ≤ 1000
  long : ∀ s ∈ n.names, s.size ≤ 20000
  data : n.data.size ≤ 20000
/-- A node in its block, its names in a row that nobody else has. -/
structure Own10 (w : World) (q : Nat) (n : Kq.Kn) (v : Value) : Prop where
  blk : Cb w q (k10 n v) 38
  row : w.ownsRow 0 9 1 v n.names.length (sc n.names)
  rises : Kq.Rises n.names
def Fn (q : Nat) (v : Value) : Nat → Prop := fun k => k = q ∨ v.ownBlock = some k

structure Specs10 : Prop where
  new : ∀ (z o : Int) (d : ByteArray) (w : World), d.size ≤ 20000 →
    Calls Tryz.prog 104 #[.int .i64 z, .int .i64 o, .string d] w fun e w' => ∃ a c, e = .returned (kv (Kq.new z o d) (.slice a 0 c)) ∧ w'.ownsRow w.heap.size 9 1 (.slice a 0 c) 0 [] ∧ Below w.heap.size w w'
  write : ∀ (q : Nat) (n : Kq.Kn) (v : Value) (z : Int) (d : ByteArray) (w : World), Cb w q (k10 n v) 38 → Fine10 n → d.size ≤ 20000 →
    Calls Tryz.prog 108 #[dptr q, .int .i64 z, .string d] w fun e w' => e = .returned (.tuple #[]) ∧ Cb w' q (k10 (Kq.write n z d) v) 38 ∧ w.grownBy w' (some q)
  add : ∀ (q : Nat) (n : Kq.Kn) (v : Value) (s : ByteArray) (w : World), Own10 w q n v → Fine10 n → s.size ≤ 20000 →
    Calls Tryz.prog 106 #[dptr q, .string s] w fun e w' => ∃ v', e = .returned (.bool (!Kq.has n.names s)) ∧ Own10 w' q (Kq.add n s) v' ∧ Moved w w' (Fn q v) (Fn q v')
  remove : ∀ (q : Nat) (n : Kq.Kn) (v : Value) (s : ByteArray) (w : World), Own10 w q n v → Fine10 n → s.size ≤ 20000 →
    Calls Tryz.prog 132 #[dptr q, .string s] w fun e w' => ∃ v', e = .returned (.bool (Kq.has n.names s)) ∧ Own10 w' q (Kq.remove n s) v' ∧ Moved w w' (Fn q v) (Fn q v')
  eph : ∀ (q : Nat) (n : Kq.Kn) (v : Value) (w : World), Cb w q (k10 n v) 38 →
    Calls Tryz.prog 153 #[dptr q] w fun e w' => e = .returned (.bool (decide (n.owner ≠ 0))) ∧ Below w.heap.size w w'

theorem more_fit {n : Int} (h : -9223372036854775808 ≤ n ∧ n ≤ 9223372036854775807) : -9223372036854775808 ≤ Kq.more n ∧ Kq.more n ≤ 9223372036854775807 := by
  unfold Kq.more
  split <;> omega
theorem fine_new {z o : Int} {d : ByteArray} (h : d.size ≤ 20000) : Fine10 (Kq.new z o d) := ⟨by simp [Kq.new], by simp [Kq.new], by simp [Kq.new], by simp [Kq.new], by simp [Kq.new], h⟩
theorem fine_write {n : Kq.Kn} (h : Fine10 n) {z : Int} {d : ByteArray} (hd : d.size ≤ 20000) : Fine10 (Kq.write n z d) := ⟨more_fit h.ver, h.kids, h.next, h.many, h.long, hd⟩
theorem fine_add {n : Kq.Kn} (h : Fine10 n) {s : ByteArray} (hs : s.size ≤ 20000) (hm : n.names.length < 1000) : Fine10 (Kq.add n s) := by
  cases hh : Kq.has n.names s with
  | true => rw [Kq.add_no hh]; exact h
  | false =>
    rw [Kq.add_yes hh]
    exact ⟨h.ver, more_fit h.kids, more_fit h.next, by show (Kq.ins n.names s).length ≤ 1000; rw [Kq.len_ins]; omega, fun x hx => by
      rcases Kq.mem_ins.1 hx with rfl | hx
      · exact hs
      · exact h.long x hx, h.data⟩
theorem fine_remove {n : Kq.Kn} (h : Fine10 n) (s : ByteArray) : Fine10 (Kq.remove n s) := by
  cases hh : Kq.has n.names s with
  | false => rw [Kq.remove_no hh]; exact h
  | true =>
    rw [Kq.remove_yes hh]
    exact ⟨h.ver, more_fit h.kids, h.next, Nat.le_trans (List.length_filter_le _ _) h.many, fun x hx => h.long x (Kq.mem_del.1 hx).1, h.data⟩

/-- A node that a statement has made. -/
structure Mine10 (W w : World) (q : Nat) (n : Kq.Kn) (v : Value) : Prop where
  own : Own10 w q n v
  fine : Fine10 n
  hi : ∀ k, Fn q v k → W.heap.size ≤ k
  below : Below W.heap.size W w
section
variable {W w w' : World} {q : Nat} {n n' : Kq.Kn} {v v' : Value}
theorem Own10.keep (h : Own10 w q n v) (hk : ∀ k, Fn q v k → w'.heap[k]? = w.heap[k]?) : Own10 w' q n v := ⟨h.blk.keep (hk q (Or.inl rfl)), row_stays h.row (fun k e => hk k (Or.inr e)), h.rises⟩
theorem Own10.flt (h : Own10 w q n v) {k : Nat} (hk : Fn q v k) : k < w.heap.size := by
  rcases hk with rfl | hk
  · exact h.blk.lt
  · exact (h.row.lt k hk).2
theorem Own10.vne (h : Own10 w q n v) : v.ownBlock ≠ some q := h.blk.apart h.row (by decide)
theorem Mine10.later (h : Mine10 W w q n v) (hb : Below w.heap.size w w') : Mine10 W w' q n v := ⟨h.own.keep (fun k hk => hb.block k (h.own.flt hk)), h.fine, h.hi, h.below.trans (hb.mono h.below.size)⟩
theorem Mine10.step (h : Mine10 W w q n v) (ho : Own10 w' q n' v') (hf : Fine10 n') (hm : Moved w w' (Fn q v) (Fn q v')) : Mine10 W w' q n' v' :=
  ⟨ho, hf, fun k hk => by
    rcases hm.sub k hk with e | e
    · exact h.hi k e
    · exact Nat.le_trans h.below.size e, h.below.trans (hm.below h.below.size h.hi)⟩
/-- A node that was answered, written down. -/
theorem mine10_made {a : Option Addr} {c : Nat} (hW : Below W.heap.size W w) (hb : Below w.heap.size w w') (hr : w'.ownsRow w.heap.size 9 1 (.slice a 0 c) 0 []) (hn : n.names = []) (hf : Fine10 n) :
    Mine10 W (w'.alloc (.cells (k10 n (.slice a 0 c)).toArray 38)) w'.heap.size n (.slice a 0 c) := by
  have hs := hW.size
  have hs2 := hb.size
  have hba := (Below.refl _ w').alloc (Nat.le_refl _) (.cells (k10 n (.slice a 0 c)).toArray 38)
  refine ⟨⟨Cb.made w' _ _, ?_, ?_⟩, hf, fun k hk => ?_, (hW.trans (hb.mono hs)).trans (hba.mono (by omega))⟩
  · rw [hn]
    exact (row_stays hr (fun k e => hba.block k (hr.lt k e).2)).mono (Nat.zero_le _)
  · rw [hn]
    exact List.Pairwise.nil
  · rcases hk with rfl | hk
    · omega
    · have := (hr.lt k hk).1
      omega
theorem Mine10.write (S : Specs10) (h : Mine10 W w q n v) (z : Int) (d : ByteArray) (hd : d.size ≤ 20000) :
    Calls Tryz.prog 108 #[dptr q, .int .i64 z, .string d] w fun e w' => e = .returned (.tuple #[]) ∧ Mine10 W w' q (Kq.write n z d) v ∧ Moved w w' (Fn q v) (Fn q v) := by
  refine (S.write q n v z d w h.own.blk h.fine hd).mono ?_
  rintro e w' ⟨rfl, h1, h2⟩
  have hm : Moved w w' (Fn q v) (Fn q v) := ⟨h2.os, h2.tape, h2.output, h2.size, fun k hk hF => h2.block k hk (fun e => hF (Or.inl (Option.some.inj e))), fun _ hk => Or.inl hk⟩
  exact ⟨rfl, h.step ⟨h1, row_stays h.own.row (fun k e => h2.block k (h.own.row.lt k e).2 (fun e2 => h.own.vne (by rw [e, e2]))), h.own.rises⟩ (fine_write h.fine hd) hm, hm⟩
theorem Mine10.add (S : Specs10) (h : Mine10 W w q n v) (s : ByteArray) (hs : s.size ≤ 20000) (hm : n.names.length < 1000) (t : Bool) (n' : Kq.Kn) (ht : (!Kq.has n.names s) = t) (hn : Kq.add n s = n') :
    Calls Tryz.prog 106 #[dptr q, .string s] w fun e w' => ∃ v', e = .returned (.bool t) ∧ Mine10 W w' q n' v' ∧ Moved w w' (Fn q v) (Fn q v') := by
  refine (S.add q n v s w h.own h.fine hs).mono ?_
  rintro e w' ⟨v', rfl, h1, h2⟩
  have hf := fine_add h.fine hs hm
  rw [hn] at h1 hf
  rw [ht]
  exact ⟨v', rfl, h.step h1 hf h2, h2⟩
theorem Mine10.remove (S : Specs10) (h : Mine10 W w q n v) (s : ByteArray) (hs : s.size ≤ 20000) (t : Bool) (n' : Kq.Kn) (ht : Kq.has n.names s = t) (hn : Kq.remove n s = n') :
    Calls Tryz.prog 132 #[dptr q, .string s] w fun e w' => ∃ v', e = .returned (.bool t) ∧ Mine10 W w' q n' v' ∧ Moved w w' (Fn q v) (Fn q v') := by
  refine (S.remove q n v s w h.own h.fine hs).mono ?_
  rintro e w' ⟨v', rfl, h1, h2⟩
  have hf := fine_remove h.fine s
  rw [hn] at h1 hf
  rw [ht]
  exact ⟨v', rfl, h.step h1 hf h2, h2⟩
theorem Mine10.eph (S : Specs10) (h : Mine10 W w q n v) (t : Bool) (ht : decide (n.owner ≠ 0) = t) :
    Calls Tryz.prog 153 #[dptr q] w fun e w' => e = .returned (.bool t) ∧ Mine10 W w' q n v ∧ Below w.heap.size w w' := by
  refine (S.eph q n v w h.own.blk).mono ?_
  rintro e w' ⟨rfl, hb⟩
  rw [ht]
  exact ⟨rfl, h.later hb, hb⟩
end
end Go.Proofs.YtpidafpaffpnaaaGreatDoor
namespace Go.Proofs.YtpidafpaffpnaaaGreatDoor.Tq
open Kq

abbrev En := ByteArray × Kn
/-- A text of these bytes. -/
def tb (l : List UInt8) : ByteArray := ⟨l.toArray⟩
/-- A tree: its nodes by their paths. -/
structure Tr where
  room : Int
  l : List En
def keys (l : List En) : List ByteArray := l.map (·.1)
def find (l : List En) (p : ByteArray) : Option Kn := (l.find? fun e => decide (e.1 = p)).map (·.2)
def set (l : List En) (p : ByteArray) (n : Kn) : List En := l.map fun e => if e.1 = p then (e.1, n) else e
def low (l : List En) (p : ByteArray) : List En := l.takeWhile fun e => lt e.1 p
def high (l : List En) (p : ByteArray) : List En := l.dropWhile fun e => lt e.1 p
def ins (l : List En) (p : ByteArray) (n : Kn) : List En := low l p ++ (p, n) :: high l p
def del (l : List En) (p : ByteArray) : List En := l.filter fun e => decide (e.1 ≠ p)

/-- Its Parent, if it has several names; its Name. -/
def up (p : ByteArray) : Option ByteArray := if 2 ≤ (Pl.parts p.data.toList).length then some (tb (Pl.parent p.data.toList)) else none
def nm (p : ByteArray) : ByteArray := tb (Pl.name p.data.toList)
/-- A path's Number. -/
def num (p : ByteArray) (k : Int) : Option ByteArray := if 0 ≤ k ∧ k ≤ 2147483647 ∧ Pl.goodB (p.data.toList ++ Pl.dig10 k.toNat) = true then some (tb (p.data.toList ++ Pl.dig10 k.toNat)) else none

/-- A result that is an error alone; a path alone; a path, and what is told of its node. -/
def fail (e : Int) : X := ⟨e, ⟨#[]⟩, ⟨#[]⟩, [], 0, 0, 0, 0, 0, 0, 0⟩
def gone (p : ByteArray) : X := ⟨0, p, ⟨#[]⟩, [], 0, 0, 0, 0, 0, 0, 0⟩
def told (p d : ByteArray) (ns : List ByteArray) (n : Kn) : X := ⟨0, p, d, ns, n.made, n.changed, n.ver, n.kids, n.owner, n.len, n.cnt⟩

/-- The Parent's name goes, if that is there. -/
def orphan (l : List En) (p : ByteArray) : List En :=
  match up p with
  | none => l
  | some u => match find l u with
    | none => l
    | some m => set l u (remove m (nm p))
/-- The Parent has the name. -/
def named (l : List En) (u : Option ByteArray) (p : ByteArray) : List En :=
  match u with
  | none => l
  | some u => match find l u with
    | none => l
    | some m => set l u (add m (nm p))
/-- A node is made there, or refused. -/
def makeAt (t : Tr) (u : Option ByteArray) (p : ByteArray) (own z : Int) (d : ByteArray) : X × Tr :=
  match find t.l p with
  | some _ => (fail 5, t)
  | none => if t.room ≤ (t.l.length : Int) then (fail 9, t) else (told p ⟨#[]⟩ [] (new z own d), { t with l := ins (named t.l u p) p (new z own d) })
def create (t : Tr) (o : O) (s z : Int) : X × Tr :=
  let own := if o.flags = 1 ∨ o.flags = 3 then s else 0
  match up o.path with
  | none => makeAt t none o.path own z o.data
  | some u => match find t.l u with
    | none => (fail 4, t)
    | some m =>
      if m.owner ≠ 0 then (fail 8, t)
      else if 2 ≤ o.flags then
        match num o.path m.next with
        | none => (fail 1, t)
        | some p => makeAt t (some u) p own z o.data
      else makeAt t (some u) o.path own z o.data
/-- What is asked of a node that is there. -/
def atNode (t : Tr) (o : O) (z : Int) (n : Kn) : X × Tr :=
  if (o.kind = 2 ∨ o.kind = 3 ∨ o.kind = 4) ∧ o.ver ≠ -1 ∧ o.ver ≠ n.ver then (fail 6, t)
  else if o.kind = 2 then (if n.names ≠ [] then (fail 7, t) else (gone o.path, { t with l := orphan (del t.l o.path) o.path }))
  else if o.kind = 3 then (told o.path ⟨#[]⟩ [] (write n z o.data), { t with l := set t.l o.path (write n z o.data) })
  else if o.kind = 4 then (gone o.path, t)
  else if o.kind = 5 then (told o.path n.data [] n, t)
  else if o.kind = 6 then (told o.path ⟨#[]⟩ [] n, t)
  else (told o.path ⟨#[]⟩ n.names n, t)
/-- Do. -/
def doo (t : Tr) (o : O) (s z : Int) : X × Tr :=
  if Oq.good o ≠ 0 then (fail (Oq.good o), t)
  else if s < 1 ∨ z < 0 then (fail 1, t)
  else if o.kind = 1 then create t o s z
  else match find t.l o.path with
    | none => (fail 4, t)
    | some n => atNode t o z n
/-- Of. -/
def ofs (t : Tr) (s : Int) : List ByteArray := if 0 < s then (t.l.filter fun e => decide (e.2.owner = s)).map (·.1) else []
def risesB (l : List ByteArray) : Bool := decide (l.Pairwise fun a b => lt a b = true)
/-- May it be laid there? -/
def layB (p : ByteArray) (n : Kn) : Bool := Pl.goodB p.data.toList && risesB n.names && decide (n.names.length ≤ 500) && n.names.all fun s => Pl.nameB s.data.toList
def laid (n : Kn) : Kn := { n with len := (n.data.size : Int), cnt := (n.names.length : Int) }
/-- Load. -/
def load (t : Tr) (p : ByteArray) (n : Kn) : Int × Tr :=
  if layB p n = false then (1, t)
  else match find t.l p with
    | some _ => (5, t)
    | none => if t.room ≤ (t.l.length : Int) then (9, t) else (0, { t with l := ins t.l p (laid n) })

/-! What follows. -/
theorem rises_iff (l : List ByteArray) : risesB l = true ↔ Rises l := by unfold risesB Rises; simp
theorem find_cons (e : En) (l : List En) (p : ByteArray) : find (e :: l) p = if e.1 = p then some e.2 else find l p := by
  unfold find
  rw [List.find?_cons]
  by_cases h : e.1 = p
  · simp [h]
  · simp [h]
theorem find_nil (p : ByteArray) : find [] p = none := rfl
theorem find_some {l : List En} {p : ByteArray} {n : Kn} (h : find l p = some n) : (p, n) ∈ l := by
  induction l with
  | nil => cases h
  | cons e l ih =>
    rw [find_cons] at h
    split at h
    · rename_i he
      rw [← he, ← Option.some.inj h]
      exact List.mem_cons_self
    · exact List.mem_cons_of_mem _ (ih h)
theorem find_none {l : List En} {p : ByteArray} (h : find l p = none) : p ∉ keys l := by
  induction l with
  | nil => simp [keys]
  | cons e l ih =>
    rw [find_cons] at h
    split at h
    · cases h
    · rename_i he
      intro hm
      unfold keys at hm
      rw [List.map_cons, List.mem_cons] at hm
      rcases hm with hm | hm
      · exact he hm.symm
      · exact ih h hm
theorem find_of {l : List En} {p : ByteArray} {n : Kn} (hr : Rises (keys l)) (h : (p, n) ∈ l) : find l p = some n := by
  induction l with
  | nil => cases h
  | cons e l ih =>
    unfold keys at hr
    rw [List.map_cons] at hr
    obtain ⟨h1, h2⟩ := List.pairwise_cons.1 hr
    rw [find_cons]
    rcases List.mem_cons.1 h with rfl | h
    · rw [if_pos rfl]
    · have h3 := h1 p (List.mem_map.2 ⟨_, h, rfl⟩)
      rw [if_neg (lt_ne h3)]
      exact ih h2 h
theorem find_mem {l : List En} {p : ByteArray} (h : p ∈ keys l) : ∃ n, find l p = some n := by
  cases he : find l p with
  | none => exact absurd h (find_none he)
  | some n => exact ⟨n, rfl⟩
theorem keys_set (l : List En) (p : ByteArray) (n : Kn) : keys (set l p n) = keys l := by
  unfold keys set
  rw [List.map_map]
  apply List.map_congr_left
  intro e _
  simp only [Function.comp]
  split <;> rfl
theorem len_set (l : List En) (p : ByteArray) (n : Kn) : (set l p n).length = l.length := by unfold set; simp
theorem find_set (l : List En) (p q : ByteArray) (n : Kn) : find (set l p n) q = if q = p then (find l q).map (fun _ => n) else find l q := by
  induction l with
  | nil => simp [set, find]
  | cons e l ih =>
    have e1 : set (e :: l) p n = (if e.1 = p then (e.1, n) else e) :: set l p n := rfl
    rw [e1, find_cons, find_cons, ih]
    by_cases h : e.1 = p
    · rw [if_pos h]
      simp only []
      by_cases hq : e.1 = q
      · rw [if_pos hq, if_pos hq, if_pos (by rw [← hq, h])]
        rfl
      · rw [if_neg hq, if_neg hq]
    · rw [if_neg h]
      by_cases hq : e.1 = q
      · rw [if_pos hq, if_pos hq, if_neg (by rw [← hq]; exact h)]
      · rw [if_neg hq, if_neg hq]
theorem low_high (l : List En) (p : ByteArray) : low l p ++ high l p = l := List.takeWhile_append_dropWhile
theorem keys_low (l : List En) (p : ByteArray) : keys (low l p) = Kq.low (keys l) p := by
  unfold keys low Kq.low
  rw [List.takeWhile_map]
  rfl
theorem keys_high (l : List En) (p : ByteArray) : keys (high l p) = Kq.high (keys l) p := by
  unfold keys high Kq.high
  rw [List.dropWhile_map]
  rfl
theorem keys_ins (l : List En) (p : ByteArray) (n : Kn) : keys (ins l p n) = Kq.ins (keys l) p := by
  unfold Kq.ins
  rw [← keys_low, ← keys_high]
  unfold ins keys
  simp
theorem len_ins (l : List En) (p : ByteArray) (n : Kn) : (ins l p n).length = l.length + 1 := by
  have h := congrArg List.length (keys_ins l p n)
  rw [Kq.len_ins] at h
  unfold keys at h
  simpa using h
theorem mem_ins {l : List En} {p : ByteArray} {n : Kn} {e : En} : e ∈ ins l p n ↔ e = (p, n) ∨ e ∈ l := by
  unfold ins
  conv => rhs; rw [← low_high l p]
  simp only [List.mem_append, List.mem_cons]
  constructor
  · rintro (h | h | h)
    · exact Or.inr (Or.inl h)
    · exact Or.inl h
    · exact Or.inr (Or.inr h)
  · rintro (h | h | h)
    · exact Or.inr (Or.inl h)
    · exact Or.inl h
    · exact Or.inr (Or.inr h)
theorem rises_ins {l : List En} {p : ByteArray} (n : Kn) (hr : Rises (keys l)) (h : find l p = none) : Rises (keys (ins l p n)) := by
  rw [keys_ins]
  exact Kq.rises_ins hr (find_none h)
theorem rises_set {l : List En} (p : ByteArray) (n : Kn) (hr : Rises (keys l)) : Rises (keys (set l p n)) := by rw [keys_set]; exact hr
theorem rises_del {l : List En} (p : ByteArray) (hr : Rises (keys l)) : Rises (keys (del l p)) := by
  have h : (keys (del l p)).Sublist (keys l) := List.Sublist.map _ List.filter_sublist
  exact List.Pairwise.sublist h hr
theorem find_ins {l : List En} {p q : ByteArray} (n : Kn) (hr : Rises (keys l)) (h : find l p = none) : find (ins l p n) q = if q = p then some n else find l q := by
  have hr2 := rises_ins n hr h
  by_cases hq : q = p
  · rw [if_pos hq, hq]
    exact find_of hr2 (mem_ins.2 (Or.inl rfl))
  · rw [if_neg hq]
    cases he : find l q with
    | some m => exact find_of hr2 (mem_ins.2 (Or.inr (find_some he)))
    | none =>
      cases hf : find (ins l p n) q with
      | none => rfl
      | some m =>
        rcases mem_ins.1 (find_some hf) with e | e
        · exact absurd (congrArg Prod.fst e) hq
        · exact absurd (List.mem_map.2 ⟨_, e, rfl⟩) (find_none he)
theorem mem_del {l : List En} {p : ByteArray} {e : En} : e ∈ del l p ↔ e ∈ l ∧ e.1 ≠ p := by unfold del; simp
theorem find_del {l : List En} {p q : ByteArray} (hr : Rises (keys l)) : find (del l p) q = if q = p then none else find l q := by
  have hr2 := rises_del p hr
  by_cases hq : q = p
  · rw [if_pos hq]
    cases hf : find (del l p) q with
    | none => rfl
    | some m => exact absurd hq (mem_del.1 (find_some hf)).2
  · rw [if_neg hq]
    cases he : find l q with
    | some m => exact find_of hr2 (mem_del.2 ⟨find_some he, hq⟩)
    | none =>
      cases hf : find (del l p) q with
      | none => rfl
      | some m => exact absurd (List.mem_map.2 ⟨_, (mem_del.1 (find_some hf)).1, rfl⟩) (find_none he)
theorem len_del_le (l : List En) (p : ByteArray) : (del l p).length ≤ l.length := List.length_filter_le _ _
end Go.Proofs.YtpidafpaffpnaaaGreatDoor.Tq
namespace Go.Proofs.YtpidafpaffpnaaaGreatDoor
/-- A node that may be in a tree. -/
structure Node11 (n : Kq.Kn) : Prop where
  ver : -9223372036854775808 ≤ n.ver ∧ n.ver ≤ 9223372036854775807
  kids : -9223372036854775808 ≤ n.kids ∧ n.kids ≤ 9223372036854775807
  next : -9223372036854775808 ≤ n.next ∧ n.next ≤ 9223372036854775807
  many : n.names.length ≤ 900
  long : ∀ s ∈ n.names, Pl.nameB s.data.toList = true
  data : n.data.size ≤ 20000
  rises : Kq.Rises n.names
/-- A tree whose paths are paths, and rise. -/
structure Fine11 (t : Tq.Tr) : Prop where
  rise : Kq.Rises (Tq.keys t.l)
  room : 1 ≤ t.room ∧ t.room ≤ 500
  len : (t.l.length : Int) ≤ t.room
  nodes : ∀ e ∈ t.l, Pl.goodB e.1.data.toList = true ∧ Node11 e.2
end Go.Proofs.YtpidafpaffpnaaaGreatDoor
namespace Go.Proofs.YtpidafpaffpnaaaGreatDoor.Tq
open Kq

theorem tb_data (l : List UInt8) : (tb l).data.toList = l := by unfold tb; simp
theorem good_zero {o : O} (h : Oq.good o = 0) : Oq.headB o = false ∧ o.data.size ≤ 1000 ∧ Oq.hasB o = false ∧ Oq.seqB o = false := by
  cases h1 : Oq.headB o with
  | true => rw [Oq.good_head h1] at h; cases h
  | false =>
    by_cases h2 : 1000 < o.data.size
    · rw [Oq.good_long h1 h2] at h; cases h
    · cases h3 : Oq.hasB o with
      | true => rw [Oq.good_has h1 h2 h3] at h; cases h
      | false =>
        rw [Oq.good_seq h1 h2 h3] at h
        cases h4 : Oq.seqB o with
        | true => rw [h4] at h; cases h
        | false => exact ⟨rfl, by omega, rfl, rfl⟩
theorem good_path {o : O} (h : Oq.good o = 0) : Pl.goodB o.path.data.toList = true := (Oq.head_no (good_zero h).1).2.2.1
theorem nm_ok {p : ByteArray} (h : Pl.goodB p.data.toList = true) : Pl.nameB (nm p).data.toList = true := by
  obtain ⟨_, h2, _⟩ := Pl.good_parts h
  have h3 := Pl.namesB_len h2
  unfold nm Pl.name
  rw [tb_data]
  have hne : Pl.parts p.data.toList ≠ [] := fun e => by rw [e] at h3; simp at h3
  rw [List.getLast?_eq_some_getLast hne]
  rw [Pl.namesB_rest h3.1 h3.2] at h2
  exact List.all_eq_true.1 h2 _ (List.getLast_mem hne)
theorem num_ok {p q : ByteArray} {k : Int} (h : num p k = some q) : Pl.goodB q.data.toList = true := by
  unfold num at h
  split at h
  · rename_i hc
    rw [← Option.some.inj h, tb_data]
    exact hc.2.2
  · cases h

section
variable {n : Kn} {t : Tr} {p : ByteArray}
theorem n11_new {z own : Int} {d : ByteArray} (hd : d.size ≤ 20000) : Node11 (new z own d) := ⟨by simp [new], by simp [new], by simp [new], by simp [new], by simp [new], hd, List.Pairwise.nil⟩
theorem n11_write (h : Node11 n) {z : Int} {d : ByteArray} (hd : d.size ≤ 20000) : Node11 (write n z d) := ⟨more_fit h.ver, h.kids, h.next, h.many, h.long, hd, h.rises⟩
theorem n11_add (h : Node11 n) {s : ByteArray} (hs : Pl.nameB s.data.toList = true) (hm : n.names.length ≤ 899) : Node11 (add n s) := by
  have hr := rises_add s h.rises
  cases hh : has n.names s with
  | true => rw [add_no hh]; exact h
  | false =>
    rw [add_yes hh] at hr ⊢
    exact ⟨h.ver, more_fit h.kids, more_fit h.next, by show (Kq.ins n.names s).length ≤ 900; rw [Kq.len_ins]; omega, fun x hx => by
      rcases Kq.mem_ins.1 hx with rfl | hx
      · exact hs
      · exact h.long x hx, h.data, hr⟩
theorem n11_remove (h : Node11 n) (s : ByteArray) : Node11 (remove n s) := by
  have hr := rises_remove s h.rises
  cases hh : has n.names s with
  | false => rw [remove_no hh]; exact h
  | true =>
    rw [remove_yes hh] at hr ⊢
    exact ⟨h.ver, more_fit h.kids, h.next, Nat.le_trans (List.length_filter_le _ _) h.many, fun x hx => h.long x (Kq.mem_del.1 hx).1, h.data, hr⟩
theorem mem_set {l : List En} {e : En} (h : e ∈ set l p n) : e ∈ l ∨ (e = (p, n) ∧ p ∈ keys l) := by
  unfold set at h
  obtain ⟨x, hx, he⟩ := List.mem_map.1 h
  split at he
  · rename_i hp
    rw [hp] at he
    exact Or.inr ⟨he.symm, List.mem_map.2 ⟨x, hx, hp⟩⟩
  · exact Or.inl (he ▸ hx)
theorem fine_set (h : Fine11 t) (hn : Node11 n) : Fine11 { t with l := set t.l p n } :=
  ⟨rises_set p n h.rise, h.room, by show ((set t.l p n).length : Int) ≤ t.room; rw [len_set]; exact h.len, fun e he => by
    rcases mem_set he with he | ⟨rfl, hp⟩
    · exact h.nodes e he
    · obtain ⟨x, hx, rfl⟩ := List.mem_map.1 hp
      exact ⟨(h.nodes x hx).1, hn⟩⟩
theorem fine_ins (h : Fine11 t) (hp : Pl.goodB p.data.toList = true) (hf : find t.l p = none) (hl : (t.l.length : Int) < t.room) (hn : Node11 n) : Fine11 { t with l := ins t.l p n } :=
  ⟨rises_ins n h.rise hf, h.room, by show ((ins t.l p n).length : Int) ≤ t.room; rw [len_ins]; omega, fun e he => by
    rcases mem_ins.1 he with rfl | he
    · exact ⟨hp, hn⟩
    · exact h.nodes e he⟩
theorem fine_del (h : Fine11 t) : Fine11 { t with l := del t.l p } :=
  ⟨rises_del p h.rise, h.room, by show ((del t.l p).length : Int) ≤ t.room; have := len_del_le t.l p; have := h.len; omega, fun e he => h.nodes e (mem_del.1 he).1⟩
theorem find_node (h : Fine11 t) {q : ByteArray} (hf : find t.l q = some n) : Node11 n := (h.nodes _ (find_some hf)).2
theorem fine_orphan (h : Fine11 t) : Fine11 { t with l := orphan t.l p } := by
  unfold orphan
  split
  · exact h
  · split
    · exact h
    · rename_i hf
      exact fine_set h (n11_remove (find_node h hf) _)
/-- Not many names. -/
def Few (t : Tr) (m : Nat) : Prop := ∀ e ∈ t.l, e.2.names.length ≤ m
theorem fine_named (h : Fine11 t) (hm : Few t 899) (u : Option ByteArray) (hp : Pl.goodB p.data.toList = true) : Fine11 { t with l := named t.l u p } := by
  unfold named
  split
  · exact h
  · split
    · exact h
    · rename_i hf
      exact fine_set h (n11_add (find_node h hf) (nm_ok hp) (hm _ (find_some hf)))
theorem keys_named (l : List En) (u : Option ByteArray) (p : ByteArray) : keys (named l u p) = keys l := by
  unfold named
  split
  · rfl
  · split
    · rfl
    · exact keys_set _ _ _
theorem keys_orphan (l : List En) (p : ByteArray) : keys (orphan l p) = keys l := by
  unfold orphan
  split
  · rfl
  · split
    · rfl
    · exact keys_set _ _ _
theorem find_keys {a b : List En} (h : keys a = keys b) (q : ByteArray) : find a q = none ↔ find b q = none := by
  have key : ∀ {a b : List En}, keys a = keys b → find a q = none → find b q = none := fun {a b} h e => by
    cases he : find b q with
    | none => rfl
    | some m =>
      have h2 : q ∈ keys b := List.mem_map.2 ⟨(q, m), find_some he, rfl⟩
      rw [← h] at h2
      exact absurd h2 (find_none e)
  exact ⟨key h, key h.symm⟩
theorem fine_make (h : Fine11 t) (hm : Few t 899) (u : Option ByteArray) (hp : Pl.goodB p.data.toList = true) {own z : Int} {d : ByteArray} (hd : d.size ≤ 20000) : Fine11 (makeAt t u p own z d).2 := by
  unfold makeAt
  split
  · exact h
  · rename_i hf
    split
    · exact h
    · rename_i hr
      have h1 := fine_named h hm u hp
      have hk := keys_named t.l u p
      have hl : (named t.l u p).length = t.l.length := by have := congrArg List.length hk; unfold keys at this; simpa using this
      exact fine_ins (t := { t with l := named t.l u p }) h1 hp ((find_keys hk p).2 hf) (by show ((named t.l u p).length : Int) < t.room; rw [hl]; omega) (n11_new hd)
end
theorem fine_doo {t : Tr} {o : O} {s z : Int} (h : Fine11 t) (hm : Few t 899) : Fine11 (doo t o s z).2 := by
  unfold doo
  split
  · exact h
  · rename_i hg
    have hg : Oq.good o = 0 := Classical.not_not.1 hg
    have hp := good_path hg
    have hd : o.data.size ≤ 20000 := by have := (good_zero hg).2.1; omega
    split
    · exact h
    · split
      · unfold create
        simp only []
        split
        · exact fine_make h hm _ hp hd
        · split
          · exact h
          · split
            · exact h
            · split
              · split
                · exact h
                · rename_i hn
                  exact fine_make h hm _ (num_ok hn) hd
              · exact fine_make h hm _ hp hd
      · split
        · exact h
        · rename_i n hf
          unfold atNode
          split
          · exact h
          · split
            · split
              · exact h
              · exact fine_orphan (t := { t with l := del t.l o.path }) (fine_del h)
            · split
              · exact fine_set h (n11_write (find_node h hf) hd)
              · split
                · exact h
                · split
                  · exact h
                  · split
                    · exact h
                    · exact h
/-- Each Do gives a node at most one name more. -/
theorem few_set {t : Tr} {p : ByteArray} {n : Kn} {m : Nat} (h : Few t m) (hn : n.names.length ≤ m) : Few { t with l := set t.l p n } m := fun e he => by
  rcases mem_set he with he | ⟨rfl, _⟩
  · exact h e he
  · exact hn
theorem Few.more {t : Tr} {m k : Nat} (h : Few t m) (hk : m ≤ k) : Few t k := fun e he => Nat.le_trans (h e he) hk
theorem few_ins {t : Tr} {p : ByteArray} {n : Kn} {m : Nat} (h : Few t m) (hn : n.names.length ≤ m) : Few { t with l := ins t.l p n } m := fun e he => by
  rcases mem_ins.1 he with rfl | he
  · exact hn
  · exact h e he
theorem few_make {t : Tr} {u : Option ByteArray} {p d : ByteArray} {own z : Int} {m : Nat} (h : Few t m) : Few (makeAt t u p own z d).2 (m + 1) := by
  have h1 := h.more (Nat.le_succ m)
  unfold makeAt
  split
  · exact h1
  · split
    · exact h1
    · refine few_ins (t := { t with l := named t.l u p }) ?_ (Nat.zero_le _)
      unfold named
      split
      · exact h1
      · split
        · exact h1
        · rename_i mn hf
          refine few_set h1 ?_
          have e1 := len_add mn (nm p)
          have e2 := h _ (find_some hf)
          simp only [] at e2
          omega
theorem few_doo {t : Tr} {o : O} {s z : Int} {m : Nat} (h : Few t m) : Few (doo t o s z).2 (m + 1) := by
  have h1 := h.more (Nat.le_succ m)
  unfold doo
  split
  · exact h1
  · split
    · exact h1
    · split
      · unfold create
        simp only []
        split
        · exact few_make h
        · split
          · exact h1
          · split
            · exact h1
            · split
              · split
                · exact h1
                · exact few_make h
              · exact few_make h
      · split
        · exact h1
        · rename_i n hf
          unfold atNode
          split
          · exact h1
          · split
            · split
              · exact h1
              · have h2 : Few { t with l := del t.l o.path } (m + 1) := fun e he => h1 e (mem_del.1 he).1
                show Few { t with l := orphan (del t.l o.path) o.path } (m + 1)
                unfold orphan
                split
                · exact h2
                · split
                  · exact h2
                  · rename_i mn hf2
                    refine few_set (t := { t with l := del t.l o.path }) h2 ?_
                    have e1 := len_remove mn (nm o.path)
                    have e2 := h2 _ (find_some hf2)
                    simp only [] at e2
                    omega
            · split
              · exact few_set h1 (h1 _ (find_some hf))
              · split
                · exact h1
                · split
                  · exact h1
                  · split
                    · exact h1
                    · exact h1
end Go.Proofs.YtpidafpaffpnaaaGreatDoor.Tq
namespace Go.Proofs.YtpidafpaffpnaaaGreatDoor.Tq
open Kq

/-- A Create, a Delete, a Set, an Exists. -/
def mk (p : ByteArray) (f : Int) : O := ⟨1, p, ⟨#[]⟩, 0, f⟩
def dl (p : ByteArray) (v : Int) : O := ⟨2, p, ⟨#[]⟩, v, 0⟩
def st (p d : ByteArray) (v : Int) : O := ⟨3, p, d, v, 0⟩
def ex (p : ByteArray) : O := ⟨6, p, ⟨#[]⟩, 0, 0⟩
section
variable {p d : ByteArray} {t : Tr} {o : O} {s z v : Int} {n m : Kn}
theorem good_mk {f : Int} (hp : Pl.goodB p.data.toList = true) (hf : f = 0 ∨ f = 1) : Oq.good (mk p f) = 0 := by
  have h1 : ¬ (2 ≤ f) := by omega
  have h2 : ¬ f < 0 := by omega
  have h3 : ¬ 3 < f := by omega
  unfold Oq.good Oq.headB Oq.hasB Oq.seqB mk
  simp [hp, h1, h2, h3, ByteArray.size]
theorem good_seq2 (hp : Pl.goodB p.data.toList = true) (h2 : 2 ≤ (Pl.parts p.data.toList).length) (h10 : Pl.goodB (p.data.toList ++ Pl.dig10 0) = true) : Oq.good (mk p 2) = 0 := by
  have h1 : ¬ (Pl.parts p.data.toList).length = 1 := by omega
  unfold Oq.good Oq.headB Oq.hasB Oq.seqB mk
  simp [hp, h1, h10, ByteArray.size]
theorem good_dl (hp : Pl.goodB p.data.toList = true) (hv : -1 ≤ v) : Oq.good (dl p v) = 0 := by
  have h1 : ¬ v < -1 := by omega
  unfold Oq.good Oq.headB Oq.hasB Oq.seqB dl
  simp [hp, h1, ByteArray.size]
theorem good_st (hp : Pl.goodB p.data.toList = true) (hd : d.size ≤ 1000) (hv : -1 ≤ v) : Oq.good (st p d v) = 0 := by
  have h1 : ¬ v < -1 := by omega
  have h2 : ¬ 1000 < d.size := by omega
  unfold Oq.good Oq.headB Oq.hasB Oq.seqB st
  simp [hp, h1, h2]
theorem good_ex (hp : Pl.goodB p.data.toList = true) : Oq.good (ex p) = 0 := by
  unfold Oq.good Oq.headB Oq.hasB Oq.seqB ex
  simp [hp, ByteArray.size]
theorem doo_node (hg : Oq.good o = 0) (hs : 1 ≤ s) (hz : 0 ≤ z) (hk : o.kind ≠ 1) (hf : find t.l o.path = some n) : doo t o s z = atNode t o z n := by
  unfold doo
  rw [if_neg (by simp [hg]), if_neg (by omega), if_neg hk, hf]
theorem doo_nowhere (hg : Oq.good o = 0) (hs : 1 ≤ s) (hz : 0 ≤ z) (hk : o.kind ≠ 1) (hf : find t.l o.path = none) : doo t o s z = (fail 4, t) := by
  unfold doo
  rw [if_neg (by simp [hg]), if_neg (by omega), if_neg hk, hf]
theorem doo_create (hg : Oq.good o = 0) (hs : 1 ≤ s) (hz : 0 ≤ z) (hk : o.kind = 1) : doo t o s z = create t o s z := by
  unfold doo
  rw [if_neg (by simp [hg]), if_neg (by omega), if_pos hk]
theorem make_yes {u : Option ByteArray} {own : Int} (hf : find t.l p = none) (hr : (t.l.length : Int) < t.room) : makeAt t u p own z d = (told p ⟨#[]⟩ [] (new z own d), { t with l := ins (named t.l u p) p (new z own d) }) := by
  unfold makeAt
  rw [hf]
  simp only []
  rw [if_neg (by omega)]
/-- A node of one name is made. -/
theorem doo_top {f : Int} (hp : Pl.goodB p.data.toList = true) (hf : f = 0 ∨ f = 1) (hu : up p = none) (hs : 1 ≤ s) (hz : 0 ≤ z) : doo t (mk p f) s z = makeAt t none p (if f = 1 then s else 0) z ⟨#[]⟩ := by
  rw [doo_create (good_mk hp hf) hs hz rfl]
  unfold create
  have e1 : up (mk p f).path = none := hu
  rw [e1]
  simp only []
  have e2 : (if (mk p f).flags = 1 ∨ (mk p f).flags = 3 then s else 0) = if f = 1 then s else 0 := by
    show (if f = 1 ∨ f = 3 then s else 0) = if f = 1 then s else 0
    rcases hf with rfl | rfl <;> simp
  rw [e2]
  rfl
/-- A numbered one is made. -/
theorem doo_num {u q : ByteArray} (hp : Pl.goodB p.data.toList = true) (h2 : 2 ≤ (Pl.parts p.data.toList).length) (h10 : Pl.goodB (p.data.toList ++ Pl.dig10 0) = true) (hu : up p = some u) (hm : find t.l u = some m) (ho : m.owner = 0) (hq : num p m.next = some q) (hs : 1 ≤ s) (hz : 0 ≤ z) : doo t (mk p 2) s z = makeAt t (some u) q 0 z ⟨#[]⟩ := by
  rw [doo_create (good_seq2 hp h2 h10) hs hz rfl]
  unfold create
  have e1 : up (mk p 2).path = some u := hu
  have e3 : num (mk p 2).path m.next = some q := hq
  rw [e1]
  simp only []
  rw [hm]
  simp only []
  rw [if_neg (by simp [ho]), if_pos (by show (2 : Int) ≤ 2; decide), e3]
  simp only []
  have e2 : (if (mk p 2).flags = 1 ∨ (mk p 2).flags = 3 then s else 0) = 0 := by
    show (if (2 : Int) = 1 ∨ (2 : Int) = 3 then s else 0) = 0
    simp
  rw [e2]
  rfl
theorem doo_set (hp : Pl.goodB p.data.toList = true) (hd : d.size ≤ 1000) (hv : -1 ≤ v) (hs : 1 ≤ s) (hz : 0 ≤ z) (hf : find t.l p = some n) (he : v = -1 ∨ v = n.ver) : doo t (st p d v) s z = (told p ⟨#[]⟩ [] (write n z d), { t with l := set t.l p (write n z d) }) := by
  rw [doo_node (good_st hp hd hv) hs hz (by show (3 : Int) ≠ 1; decide) hf]
  unfold atNode
  rw [if_neg (by rintro ⟨_, h1, h2⟩; rcases he with h | h; exact h1 h; exact h2 h), if_neg (by show ¬ (3 : Int) = 2; decide), if_pos (by rfl)]
  rfl
theorem doo_set_no (hp : Pl.goodB p.data.toList = true) (hd : d.size ≤ 1000) (hv : -1 ≤ v) (hs : 1 ≤ s) (hz : 0 ≤ z) (hf : find t.l p = some n) (h1 : v ≠ -1) (h2 : v ≠ n.ver) : doo t (st p d v) s z = (fail 6, t) := by
  rw [doo_node (good_st hp hd hv) hs hz (by show (3 : Int) ≠ 1; decide) hf]
  unfold atNode
  rw [if_pos ⟨Or.inr (Or.inl rfl), h1, h2⟩]
theorem doo_del (hp : Pl.goodB p.data.toList = true) (hv : -1 ≤ v) (hs : 1 ≤ s) (hz : 0 ≤ z) (hf : find t.l p = some n) (he : v = -1 ∨ v = n.ver) (hn : n.names = []) : doo t (dl p v) s z = (gone p, { t with l := orphan (del t.l p) p }) := by
  rw [doo_node (good_dl hp hv) hs hz (by show (2 : Int) ≠ 1; decide) hf]
  unfold atNode
  rw [if_neg (by rintro ⟨_, h1, h2⟩; rcases he with h | h; exact h1 h; exact h2 h), if_pos (by rfl), if_neg (by simp [hn])]
  rfl
theorem doo_ex (hp : Pl.goodB p.data.toList = true) (hs : 1 ≤ s) (hz : 0 ≤ z) (hf : find t.l p = some n) : doo t (ex p) s z = (told p ⟨#[]⟩ [] n, t) := by
  rw [doo_node (good_ex hp) hs hz (by show (6 : Int) ≠ 1; decide) hf]
  unfold atNode
  rw [if_neg (by rintro ⟨h, _, _⟩; revert h; show ¬ ((6 : Int) = 2 ∨ (6 : Int) = 3 ∨ (6 : Int) = 4); decide), if_neg (by show ¬ (6 : Int) = 2; decide), if_neg (by show ¬ (6 : Int) = 3; decide), if_neg (by show ¬ (6 : Int) = 4; decide), if_neg (by show ¬ (6 : Int) = 5; decide), if_pos (by rfl)]
  rfl
end
end Go.Proofs.YtpidafpaffpnaaaGreatDoor.Tq
namespace Go.Proofs.YtpidafpaffpnaaaGreatDoor.Pl

/-- The last k digits of n. -/
def fx : Nat → Nat → List UInt8
  | 0, _ => []
  | k + 1, n => fx k (n / 10) ++ [UInt8.ofNat (48 + n % 10)]

theorem fx_len : ∀ k n, (fx k n).length = k
  | 0, _ => rfl
  | k + 1, n => by simp [fx, fx_len k]

theorem fx_zero : ∀ k, fx k 0 = List.replicate k 48
  | 0 => rfl
  | k + 1 => by rw [fx, Nat.zero_div, fx_zero k, List.replicate_succ']; rfl

theorem pad_fx : ∀ (k n : Nat), 1 ≤ k → n < 10 ^ k → List.replicate (k - (Lib.decDigits n).length) 48 ++ Lib.decDigits n = fx k n
  | 0, _, h, _ => by omega
  | k + 1, n, _, h => by
    by_cases hs : n < 10
    · rw [Lib.decDigits_one hs, fx, Nat.div_eq_of_lt hs, fx_zero, Nat.mod_eq_of_lt hs]; rfl
    · have hk : 1 ≤ k := by
        rcases Nat.eq_zero_or_pos k with rfl | h'
        · simp at h; omega
        · exact h'
      have e : Lib.decDigits n = Lib.decDigits (n / 10) ++ [UInt8.ofNat (48 + n % 10)] := by rw [Lib.decDigits, dif_neg hs]
      have ih := pad_fx k (n / 10) hk (by rw [Nat.pow_succ] at h; omega)
      rw [e, fx, ← ih, List.length_append, List.length_singleton, Nat.add_sub_add_right, List.append_assoc]

theorem dig10_fx {n : Nat} (h : n ≤ 2147483647) : dig10 n = fx 10 n := pad_fx 10 n (by decide) (by omega)

theorem less_snoc : ∀ (x y : List UInt8) (c d : UInt8), x.length = y.length → Op.bytesLess (x ++ [c]) (y ++ [d]) = (Op.bytesLess x y || (x == y && decide (c < d)))
  | [], [], c, d, _ => by simp [Op.bytesLess]
  | [], _ :: _, _, _, h => by simp at h
  | _ :: _, [], _, _, h => by simp at h
  | a :: x, b :: y, c, d, h => by
    have ih := less_snoc x y c d (by simpa using h)
    simp only [List.cons_append, Op.bytesLess, ih]
    by_cases hab : a = b
    · subst hab; simp
    · have : (a == b) = false := by simpa using hab
      simp [this]

theorem less_append : ∀ (p x y : List UInt8), Op.bytesLess (p ++ x) (p ++ y) = Op.bytesLess x y
  | [], _, _ => rfl
  | a :: p, x, y => by simp [Op.bytesLess, less_append p x y]

theorem digit_lt (a b : Nat) (ha : a < 10) (hb : b < 10) : decide (UInt8.ofNat (48 + a) < UInt8.ofNat (48 + b)) = decide (a < b) := by
  rw [decide_eq_decide, UInt8.lt_iff_toNat_lt, UInt8.toNat_ofNat', UInt8.toNat_ofNat']
  omega

theorem digit_inj {a b : Nat} (ha : a < 10) (hb : b < 10) (h : UInt8.ofNat (48 + a) = UInt8.ofNat (48 + b)) : a = b := by
  have := congrArg UInt8.toNat h
  rw [UInt8.toNat_ofNat', UInt8.toNat_ofNat'] at this
  omega

theorem fx_inj : ∀ (k a b : Nat), a < 10 ^ k → b < 10 ^ k → fx k a = fx k b → a = b
  | 0, a, b, ha, hb, _ => by simp at ha hb; omega
  | k + 1, a, b, ha, hb, h => by
    rw [fx, fx] at h
    have h2 := List.append_inj' h rfl
    rw [Nat.pow_succ] at ha hb
    have e1 := fx_inj k (a / 10) (b / 10) (by omega) (by omega) h2.1
    have e2 := digit_inj (Nat.mod_lt a (by decide)) (Nat.mod_lt b (by decide)) (List.singleton_inj.1 h2.2)
    omega

theorem fx_less : ∀ (k a b : Nat), a < 10 ^ k → b < 10 ^ k → Op.bytesLess (fx k a) (fx k b) = decide (a < b)
  | 0, a, b, ha, hb => by
    simp at ha hb
    subst ha; subst hb; rfl
  | k + 1, a, b, ha, hb => by
    rw [Nat.pow_succ] at ha hb
    rw [fx, fx, less_snoc _ _ _ _ (by rw [fx_len, fx_len]), fx_less k (a / 10) (b / 10) (by omega) (by omega), digit_lt _ _ (Nat.mod_lt a (by decide)) (Nat.mod_lt b (by decide))]
    by_cases he : a / 10 = b / 10
    · rw [he]
      simp
      omega
    · have hne : (fx k (a / 10) == fx k (b / 10)) = false := by
        rw [beq_eq_false_iff_ne]
        intro h
        exact he (fx_inj k _ _ (by omega) (by omega) h)
      rw [hne]
      simp
      omega

theorem fx_digits : ∀ (k n : Nat), ∀ c ∈ fx k n, 48 ≤ c.toNat ∧ c.toNat ≤ 57
  | 0, _ => by simp [fx]
  | k + 1, n => by
    intro c hc
    rw [fx] at hc
    rcases List.mem_append.1 hc with h | h
    · exact fx_digits k _ c h
    · rw [List.mem_singleton.1 h, UInt8.toNat_ofNat']
      have := Nat.mod_lt n (show 0 < 10 by decide)
      omega

/-- A name with ten digits behind it. -/
theorem nameB_num {n d : List UInt8} (hn : nameB n = true) (hd : d.length = 10) (hdig : ∀ c ∈ d, 48 ≤ c.toNat ∧ c.toNat ≤ 57) : nameB (n ++ d) = decide (n.length + 10 ≤ 40) := by
  have hlen : (n ++ d).length = n.length + 10 := by rw [List.length_append, hd]
  unfold nameB at hn
  simp only [Bool.and_eq_true, decide_eq_true_eq] at hn
  obtain ⟨⟨⟨⟨h1, _⟩, _⟩, _⟩, hall⟩ := hn
  have hall2 : (n ++ d).all byteB = true := by
    rw [List.all_append, hall, Bool.true_and, List.all_eq_true]
    intro c hc
    obtain ⟨a, b⟩ := hdig c hc
    refine byteB_yes (by omega) (by omega) ?_
    rw [beq_eq_false_iff_ne]
    omega
  by_cases h40 : n.length + 10 ≤ 40
  · rw [decide_eq_true h40, nameB_rest (by intro e; rw [e] at hlen; simp at hlen) (by omega) (by intro e; rw [e] at hlen; simp at hlen) (by intro e; rw [e] at hlen; simp at hlen)]
    exact hall2
  · rw [decide_eq_false h40]; exact nameB_long (by omega)

theorem num_form {p : List UInt8} (hp : goodB p = true) (d : List UInt8) : ∃ l n, parts p = l ++ [n] ∧ p = of (l ++ [n]) ∧ p ++ d = of (l ++ [n ++ d]) ∧ namesB (l ++ [n]) = true ∧ name p = n ∧ parent p = of l := by
  obtain ⟨e, hn, _⟩ := good_parts hp
  have h1 := namesB_len hn
  have hne : parts p ≠ [] := by intro hh; rw [hh] at h1; simp at h1
  have ep := (List.dropLast_concat_getLast hne).symm
  refine ⟨(parts p).dropLast, (parts p).getLast hne, ep, by rw [← ep]; exact e, ?_, by rw [← ep]; exact hn, ?_, rfl⟩
  · conv => lhs; rw [e, ep]
    rw [of_append, of_append]
    simp [of]
  · rw [name, List.getLast?_eq_some_getLast hne]; rfl

theorem good_num {p d : List UInt8} (hp : goodB p = true) (hd : d.length = 10) (hdig : ∀ c ∈ d, 48 ≤ c.toNat ∧ c.toNat ≤ 57) : goodB (p ++ d) = (decide (p.length + 10 ≤ 200) && decide ((name p).length + 10 ≤ 40)) := by
  obtain ⟨l, n, e1, e2, e3, hn, enm, _⟩ := num_form hp d
  rw [enm]
  have hc := namesB_clean hn
  have hnn : nameB n = true := by
    unfold namesB at hn
    simp only [Bool.and_eq_true, List.all_eq_true] at hn
    exact hn.2 n (by simp)
  have hnum := nameB_num hnn hd hdig
  have h8 := namesB_len hn
  have hnames : namesB (l ++ [n ++ d]) = decide (n.length + 10 ≤ 40) := by
    rw [namesB_rest (by simp) (by simpa using h8.2), List.all_append]
    have hl : l.all nameB = true := by
      unfold namesB at hn
      simp only [Bool.and_eq_true, List.all_append] at hn
      exact hn.2.1
    rw [hl, Bool.true_and]
    simp [hnum]
  have hlen : (p ++ d).length = p.length + 10 := by rw [List.length_append, hd]
  have hcl : ∀ x ∈ l ++ [n ++ d], ∀ c ∈ x, c ≠ 47 := by
    intro x hx
    rcases List.mem_append.1 hx with h | h
    · exact hc x (List.mem_append_left _ h)
    · rw [List.mem_singleton.1 h]
      intro c hcc
      rcases List.mem_append.1 hcc with h' | h'
      · exact hc n (by simp) c h'
      · obtain ⟨a, b⟩ := hdig c h'
        intro e; subst e
        simp at a
  cases hg : goodB (p ++ d) with
  | true =>
    have hl200 := (good_parts hg).2.2
    rw [hlen] at hl200
    obtain ⟨m, hm, em, _⟩ := (good_iff _).1 hg
    have : m = l ++ [n ++ d] := by
      have h1 : spl ((of m).drop 1) = m := by
        obtain ⟨x, ex, sx⟩ := spl_drop_of hm
        rw [ex]; exact sx
      rw [← h1, ← em, e3]
      cases hh : l ++ [n ++ d] with
      | nil => simp at hh
      | cons a t =>
        rw [of, List.drop_succ_cons, List.drop_zero]
        exact spl_of a t (by rw [← hh]; exact hcl)
    rw [this, hnames] at hm
    rw [decide_eq_true hl200, hm]; rfl
  | false =>
    symm
    rw [Bool.and_eq_false_iff]
    by_cases h200 : p.length + 10 ≤ 200
    · right
      cases hd40 : decide (n.length + 10 ≤ 40) with
      | false => rfl
      | true =>
        rw [hd40] at hnames
        have := (good_iff (p ++ d)).2 ⟨_, hnames, e3, by omega⟩
        rw [hg] at this; cases this
    · left; exact decide_eq_false h200

theorem num_parts {p d : List UInt8} (hp : goodB p = true) (hg : goodB (p ++ d) = true) (hcl : ∀ c ∈ d, c ≠ 47) : (parts (p ++ d)).length = (parts p).length ∧ parent (p ++ d) = parent p := by
  obtain ⟨l, n, e1, e2, e3, hn, enm, epar⟩ := num_form hp d
  have hc := namesB_clean hn
  have hq : parts (p ++ d) = l ++ [n ++ d] := by
    have h1 : parts (p ++ d) = spl ((p ++ d).drop 1) := by unfold parts; rw [hg]; rfl
    rw [h1, e3]
    cases hh : l ++ [n ++ d] with
    | nil => simp at hh
    | cons a t =>
      rw [of, List.drop_succ_cons, List.drop_zero]
      refine spl_of a t ?_
      rw [← hh]
      intro x hx
      rcases List.mem_append.1 hx with h | h
      · exact hc x (List.mem_append_left _ h)
      · rw [List.mem_singleton.1 h]
        intro c hcc
        rcases List.mem_append.1 hcc with h' | h'
        · exact hc n (by simp) c h'
        · exact hcl c h'
  refine ⟨by rw [hq, e1]; simp, ?_⟩
  rw [parent, hq, List.dropLast_concat, epar]
end Go.Proofs.YtpidafpaffpnaaaGreatDoor.Pl
namespace Go.Proofs.YtpidafpaffpnaaaGreatDoor.Tq
theorem num_less {a b : Int} (ha : 0 ≤ a ∧ a ≤ 2147483647) (hb : 0 ≤ b ∧ b ≤ 2147483647) (p : List UInt8) : Op.bytesLess (p ++ Pl.dig10 a.toNat) (p ++ Pl.dig10 b.toNat) = decide (a < b) := by
  rw [Pl.less_append, Pl.dig10_fx (by omega), Pl.dig10_fx (by omega), Pl.fx_less 10 _ _ (by omega) (by omega), decide_eq_decide]
  omega
theorem num_eq {a b : Int} (ha : 0 ≤ a ∧ a ≤ 2147483647) (hb : 0 ≤ b ∧ b ≤ 2147483647) (p : List UInt8) : (p ++ Pl.dig10 a.toNat == p ++ Pl.dig10 b.toNat) = (a == b) := by
  rw [Bool.eq_iff_iff, beq_iff_eq, beq_iff_eq, List.append_right_inj, Pl.dig10_fx (by omega), Pl.dig10_fx (by omega)]
  constructor
  · intro h
    have := Pl.fx_inj 10 _ _ (by omega) (by omega) h
    omega
  · intro h; rw [h]
theorem num_len {a : Int} (ha : 0 ≤ a ∧ a ≤ 2147483647) : (Pl.dig10 a.toNat).length = 10 := by
  rw [Pl.dig10_fx (by omega), Pl.fx_len]
theorem num_digits {a : Int} (ha : 0 ≤ a ∧ a ≤ 2147483647) : ∀ c ∈ Pl.dig10 a.toNat, 48 ≤ c.toNat ∧ c.toNat ≤ 57 := by
  rw [Pl.dig10_fx (by omega)]; exact Pl.fx_digits 10 _
theorem num_clean {a : Int} (ha : 0 ≤ a ∧ a ≤ 2147483647) : ∀ c ∈ Pl.dig10 a.toNat, c ≠ 47 := by
  intro c hc e
  have := num_digits ha c hc
  rw [e] at this
  simp at this
end Go.Proofs.YtpidafpaffpnaaaGreatDoor.Tq
namespace Go.Proofs.YtpidafpaffpnaaaGreatDoor.Pl
theorem num_name {p d : List UInt8} (hp : goodB p = true) (hg : goodB (p ++ d) = true) (hcl : ∀ c ∈ d, c ≠ 47) : name (p ++ d) = name p ++ d := by
  obtain ⟨l, n, e1, e2, e3, hn, enm, epar⟩ := num_form hp d
  have hc := namesB_clean hn
  have hq : parts (p ++ d) = l ++ [n ++ d] := by
    obtain ⟨f1, f2, f3⟩ := good_parts hg
    have h1 : of (parts (p ++ d)) = of (l ++ [n ++ d]) := by rw [← f1, e3]
    have c1 : ∀ x ∈ parts (p ++ d), ∀ c ∈ x, c ≠ 47 := namesB_clean f2
    have c2 : ∀ x ∈ l ++ [n ++ d], ∀ c ∈ x, c ≠ 47 := fun x hx c hcx => by
      rcases List.mem_append.1 hx with h | h
      · exact hc x (List.mem_append.2 (Or.inl h)) c hcx
      · simp at h
        rw [h] at hcx
        rcases List.mem_append.1 hcx with h2 | h2
        · exact hc n (by simp) c h2
        · exact hcl c h2
    have key : ∀ {a b : List (List UInt8)}, a ≠ [] → b ≠ [] → (∀ x ∈ a, ∀ c ∈ x, c ≠ 47) → (∀ x ∈ b, ∀ c ∈ x, c ≠ 47) → of a = of b → a = b := fun {a b} ha hb ca cb e => by
      obtain ⟨x, a', rfl⟩ := List.exists_cons_of_ne_nil ha
      obtain ⟨y, b', rfl⟩ := List.exists_cons_of_ne_nil hb
      have e1 := spl_of x a' ca
      have e2 := spl_of y b' cb
      have e3 : x ++ of a' = y ++ of b' := by
        have h1 : of (x :: a') = 47 :: (x ++ of a') := rfl
        have h2 : of (y :: b') = 47 :: (y ++ of b') := rfl
        rw [h1, h2] at e
        exact (List.cons.inj e).2
      rw [e3] at e1
      rw [← e1, e2]
    exact key (fun h => by have := namesB_len f2; rw [h] at this; simp at this) (by simp) c1 c2 h1
  rw [name, hq, enm]
  simp
end Go.Proofs.YtpidafpaffpnaaaGreatDoor.Pl
namespace Go.Proofs.YtpidafpaffpnaaaGreatDoor.Tq
open Kq

def kid (B : ByteArray) (j : Nat) : ByteArray := tb (B.data.toList ++ Pl.dig10 j)
def kn (B : ByteArray) (j : Nat) : ByteArray := tb (Pl.name B.data.toList ++ Pl.dig10 j)
theorem tb_inj {a b : List UInt8} (h : tb a = tb b) : a = b := by
  have := congrArg (fun x : ByteArray => x.data.toList) h
  simpa [tb] using this
theorem dig_inj {i j : Nat} (hi : i ≤ 2147483647) (hj : j ≤ 2147483647) (h : Pl.dig10 i = Pl.dig10 j) : i = j := by
  rw [Pl.dig10_fx hi, Pl.dig10_fx hj] at h
  exact Pl.fx_inj 10 i j (by omega) (by omega) h
theorem kid_inj {B : ByteArray} {i j : Nat} (hi : i ≤ 2147483647) (hj : j ≤ 2147483647) (h : kid B i = kid B j) : i = j := dig_inj hi hj (List.append_cancel_left (tb_inj h))
theorem kn_inj {B : ByteArray} {i j : Nat} (hi : i ≤ 2147483647) (hj : j ≤ 2147483647) (h : kn B i = kn B j) : i = j := dig_inj hi hj (List.append_cancel_left (tb_inj h))
theorem kid_less {B : ByteArray} {i j : Nat} (hi : i ≤ 2147483647) (hj : j ≤ 2147483647) : Op.bytesLess (kid B i).toList (kid B j).toList = decide (i < j) := by
  have e : ∀ l, (tb l).toList = l := fun l => by rw [ByteArray.toList_eq]; exact tb_data l
  unfold kid
  rw [e, e, Pl.less_append, Pl.dig10_fx hi, Pl.dig10_fx hj, Pl.fx_less 10 i j (by omega) (by omega)]

theorem dig_clean {j : Nat} (hj : j ≤ 2147483647) : ∀ c ∈ Pl.dig10 j, c ≠ 47 := by
  have h2 := num_clean (a := (j : Int)) (by omega)
  rwa [Int.toNat_natCast] at h2

/-- A node of one name, and a path below it that may be numbered. -/
structure Bp (P B : ByteArray) : Prop where
  goodP : Pl.goodB P.data.toList = true
  goodB : Pl.goodB B.data.toList = true
  upP : up P = none
  upB : up B = some P
  two : 2 ≤ (Pl.parts B.data.toList).length
  short : B.data.toList.length + 10 ≤ 200 ∧ (Pl.name B.data.toList).length + 10 ≤ 40
section
variable {P B : ByteArray}
theorem Bp.kidgood (h : Bp P B) {j : Nat} (hj : j ≤ 2147483647) : Pl.goodB (B.data.toList ++ Pl.dig10 j) = true := by
  have h1 := num_len (a := (j : Int)) (by omega)
  have h2 := num_digits (a := (j : Int)) (by omega)
  rw [Int.toNat_natCast] at h1 h2
  rw [Pl.good_num h.goodB h1 h2]
  have := h.short
  simp only [Bool.and_eq_true, decide_eq_true_eq]
  exact this
theorem Bp.good_kid (h : Bp P B) {j : Nat} (hj : j ≤ 2147483647) : Pl.goodB (kid B j).data.toList = true := by
  unfold kid
  rw [tb_data]
  exact h.kidgood hj
theorem Bp.num (h : Bp P B) {j : Nat} (hj : j ≤ 2147483647) : num B (j : Int) = some (kid B j) := by
  unfold Tq.num
  rw [Int.toNat_natCast, if_pos ⟨by omega, by omega, h.kidgood hj⟩]
  rfl
theorem Bp.up_kid (h : Bp P B) {j : Nat} (hj : j ≤ 2147483647) : up (kid B j) = some P := by
  have h1 := Pl.num_parts h.goodB (h.kidgood hj) (dig_clean hj)
  unfold up kid
  rw [tb_data, if_pos (by rw [h1.1]; exact h.two), h1.2]
  have h2 := h.upB
  unfold up at h2
  rw [if_pos h.two] at h2
  exact h2
theorem Bp.nm_kid (h : Bp P B) {j : Nat} (hj : j ≤ 2147483647) : nm (kid B j) = kn B j := by
  unfold nm kid kn
  rw [tb_data, Pl.num_name h.goodB (h.kidgood hj) (dig_clean hj)]
theorem Bp.ne_kid (h : Bp P B) {j : Nat} (hj : j ≤ 2147483647) : kid B j ≠ P := fun e => by
  have h1 := h.up_kid hj
  rw [e, h.upP] at h1
  cases h1
end
/-- The children whose numbers are js are there; n were made. -/
structure Kd (P B : ByteArray) (t : Tr) (n : Nat) (js : List Nat) (K z0 : Int) : Prop where
  fine : Fine11 t
  few : Few t n
  par : ∃ m, find t.l P = some m ∧ m.owner = 0 ∧ m.next = (n : Int) ∧ m.kids = K ∧ m.cnt = (m.names.length : Int) ∧ m.ver = 0 ∧ m.changed = z0 ∧ m.names.length = js.length ∧ ∀ s, s ∈ m.names ↔ ∃ j ∈ js, s = kn B j
  nodes : ∀ q nd, find t.l q = some nd → q = P ∨ ∃ j ∈ js, q = kid B j ∧ nd.names = [] ∧ nd.ver = 0
  there : ∀ j ∈ js, ∃ nd, find t.l (kid B j) = some nd
  len : t.l.length = js.length + 1
  lt : ∀ j ∈ js, j < n
  nodup : js.Nodup
  sum : K = 2 * (n : Int) - (js.length : Int) ∧ js.length ≤ n
section
variable {P B : ByteArray} {t : Tr} {n : Nat} {js : List Nat} {K z0 : Int}
theorem few_mono {t : Tr} {a b : Nat} (h : Few t a) (hab : a ≤ b) : Few t b := h.more hab
/-- One more is made. -/
theorem Kd.push (hb : Bp P B) (h : Kd P B t n js K z0) (hn : n ≤ 800) (hr : (t.l.length : Int) < t.room) {s z : Int} (hs : 1 ≤ s) (hz : 0 ≤ z) :
    ∃ x t', doo t (Tq.mk B 2) s z = (x, t') ∧ x.err = 0 ∧ x.path = kid B n ∧ x.names = [] ∧ t'.room = t.room ∧ Kd P B t' (n + 1) (js ++ [n]) (K + 1) z0 := by
  obtain ⟨m, h1, h2, h3, h4, h5, h6, h7, h8, h9⟩ := h.par
  have hn2 : n ≤ 2147483647 := by omega
  have hq : num B m.next = some (kid B n) := by rw [h3]; exact hb.num hn2
  have hnew : find t.l (kid B n) = none := by
    cases hf : find t.l (kid B n) with
    | none => rfl
    | some nd =>
      rcases h.nodes _ _ hf with e | ⟨j, hj, e, _⟩
      · exact absurd e (hb.ne_kid hn2)
      · have h10 := h.lt j hj
        have := kid_inj hn2 (by omega) e
        omega
  have hnm : has m.names (kn B n) = false := by
    cases hh : has m.names (kn B n) with
    | false => rfl
    | true =>
      obtain ⟨j, hj, e⟩ := (h9 _).1 (has_iff.1 hh)
      have h10 := h.lt j hj
      have := kn_inj hn2 (by omega) e
      omega
  have e1 := doo_num (t := t) (s := s) (z := z) hb.goodB hb.two (by have := hb.kidgood (j := 0) (by omega); exact this) hb.upB h1 h2 hq hs hz
  rw [make_yes hnew hr] at e1
  have hnd : named t.l (some P) (kid B n) = set t.l P (add m (kn B n)) := by
    unfold named
    simp only []
    rw [h1]
    simp only []
    rw [hb.nm_kid hn2]
  rw [hnd] at e1
  have hfin := fine_doo (o := Tq.mk B 2) (s := s) (z := z) h.fine (h.few.more (by omega))
  have hfew := few_doo (o := Tq.mk B 2) (s := s) (z := z) h.few
  rw [e1] at hfin hfew
  have hks := keys_set t.l P (add m (kn B n))
  have hrs : Rises (keys (set t.l P (add m (kn B n)))) := rises_set _ _ h.fine.rise
  have hn3 : find (set t.l P (add m (kn B n))) (kid B n) = none := (find_keys hks _).2 hnew
  have hfi : ∀ q, find (ins (set t.l P (add m (kn B n))) (kid B n) (new z 0 ⟨#[]⟩)) q = if q = kid B n then some (new z 0 ⟨#[]⟩) else if q = P then some (add m (kn B n)) else find t.l q := fun q => by
    rw [find_ins _ hrs hn3, find_set]
    by_cases hq1 : q = kid B n
    · rw [if_pos hq1, if_pos hq1]
    · rw [if_neg hq1, if_neg hq1]
      by_cases hq2 : q = P
      · rw [if_pos hq2, if_pos hq2, hq2, h1]
        rfl
      · rw [if_neg hq2, if_neg hq2]
  have hPk : P ≠ kid B n := fun e => hb.ne_kid hn2 e.symm
  have hadd := add_yes hnm
  refine ⟨_, _, e1, rfl, rfl, rfl, rfl, hfin, hfew, ⟨add m (kn B n), ?_, ?_, ?_, ?_, ?_, ?_, ?_, ?_, ?_⟩, ?_, ?_, ?_, ?_, ?_, ?_⟩
  · show find (ins _ _ _) P = _
    rw [hfi, if_neg hPk, if_pos rfl]
  · rw [hadd]; exact h2
  · rw [hadd]
    show more m.next = _
    rw [h3]
    unfold more
    rw [if_neg (by omega)]
    omega
  · rw [hadd]
    show more m.kids = _
    have := h.sum
    rw [h4]
    unfold more
    rw [if_neg (by omega)]
  · rw [hadd]
    show ((m.names.length + 1 : Nat) : Int) = ((Kq.ins m.names (kn B n)).length : Int)
    rw [Kq.len_ins]
  · rw [hadd]; exact h6
  · rw [hadd]; exact h7
  · rw [hadd]
    show (Kq.ins m.names (kn B n)).length = _
    rw [Kq.len_ins, h8]
    simp
  · intro s2
    rw [hadd]
    show s2 ∈ Kq.ins m.names (kn B n) ↔ _
    rw [Kq.mem_ins, h9]
    constructor
    · rintro (rfl | ⟨j, hj, rfl⟩)
      · exact ⟨n, by simp, rfl⟩
      · exact ⟨j, by simp [hj], rfl⟩
    · rintro ⟨j, hj, rfl⟩
      rcases List.mem_append.1 hj with hj | hj
      · exact Or.inr ⟨j, hj, rfl⟩
      · simp at hj
        exact Or.inl (by rw [hj])
  · intro q nd hf
    have hf : find (ins (set t.l P (add m (kn B n))) (kid B n) (new z 0 ⟨#[]⟩)) q = some nd := hf
    rw [hfi] at hf
    split at hf
    · rename_i e
      rw [← Option.some.inj hf]
      exact Or.inr ⟨n, by simp, e, rfl, rfl⟩
    · split at hf
      · rename_i e
        exact Or.inl e
      · rcases h.nodes q nd hf with e | ⟨j, hj, e⟩
        · exact Or.inl e
        · exact Or.inr ⟨j, by simp [hj], e⟩
  · intro j hj
    show ∃ nd, find (ins (set t.l P (add m (kn B n))) (kid B n) (new z 0 ⟨#[]⟩)) (kid B j) = some nd
    rw [hfi]
    by_cases e : kid B j = kid B n
    · rw [if_pos e]; exact ⟨_, rfl⟩
    · rw [if_neg e]
      rcases List.mem_append.1 hj with hj | hj
      · have h10 := h.lt j hj
        rw [if_neg (hb.ne_kid (by omega))]
        exact h.there j hj
      · simp at hj
        exact absurd (by rw [hj]) e
  · show (ins _ _ _).length = _
    rw [len_ins, len_set, h.len]
    simp
  · intro j hj
    rcases List.mem_append.1 hj with hj | hj
    · have := h.lt j hj; omega
    · simp at hj; omega
  · refine List.nodup_append.2 ⟨h.nodup, by simp, fun a ha b hb2 => ?_⟩
    simp at hb2
    have := h.lt a ha
    omega
  · have := h.sum
    rw [List.length_append, List.length_singleton]
    omega
/-- One goes. -/
theorem Kd.pop (hb : Bp P B) (h : Kd P B t n js K z0) (hn : n ≤ 800) {j : Nat} (hj : j ∈ js) {v s z : Int} (hv : v = -1 ∨ v = 0) (hs : 1 ≤ s) (hz : 0 ≤ z) :
    ∃ t', doo t (dl (kid B j) v) s z = (gone (kid B j), t') ∧ t'.room = t.room ∧ Kd P B t' n (js.erase j) (K + 1) z0 := by
  obtain ⟨m, h1, h2, h3, h4, h5, h6, h7, h8, h9⟩ := h.par
  have hjn := h.lt j hj
  have hj2 : j ≤ 2147483647 := by omega
  have hpos : 0 < js.length := List.length_pos_of_mem hj
  obtain ⟨nd, hnd⟩ := h.there j hj
  obtain ⟨hnn, hnv⟩ : nd.names = [] ∧ nd.ver = 0 := by
    rcases h.nodes _ _ hnd with e | ⟨_, _, _, e⟩
    · exact absurd e (hb.ne_kid hj2)
    · exact e
  have e1 := doo_del (t := t) (v := v) (s := s) (z := z) (hb.good_kid hj2) (by rcases hv with hv | hv <;> omega) hs hz hnd (by rw [hnv]; exact hv) hnn
  have hfin := fine_doo (o := dl (kid B j) v) (s := s) (z := z) h.fine (h.few.more (by omega))
  rw [e1] at hfin
  have hPk : P ≠ kid B j := fun e => hb.ne_kid hj2 e.symm
  have hfd : ∀ q, find (del t.l (kid B j)) q = if q = kid B j then none else find t.l q := fun q => find_del h.fine.rise
  have hdP : find (del t.l (kid B j)) P = some m := by rw [hfd, if_neg hPk]; exact h1
  have hor : orphan (del t.l (kid B j)) (kid B j) = set (del t.l (kid B j)) P (remove m (kn B j)) := by
    unfold orphan
    rw [hb.up_kid hj2]
    simp only []
    rw [hdP]
    simp only []
    rw [hb.nm_kid hj2]
  rw [hor] at e1 hfin
  have hmem : kn B j ∈ m.names := (h9 _).2 ⟨j, hj, rfl⟩
  have hrem := remove_yes (has_iff.2 hmem)
  have hmr : Rises m.names := (h.fine.nodes _ (find_some h1)).2.rises
  have hld := len_del hmr hmem
  have hfi : ∀ q, find (set (del t.l (kid B j)) P (remove m (kn B j))) q = if q = P then some (remove m (kn B j)) else if q = kid B j then none else find t.l q := fun q => by
    rw [find_set]
    by_cases hq2 : q = P
    · rw [if_pos hq2, if_pos hq2, hq2, hdP]
      rfl
    · rw [if_neg hq2, if_neg hq2, hfd]
  refine ⟨_, e1, rfl, hfin, ?_, ⟨remove m (kn B j), ?_, ?_, ?_, ?_, ?_, ?_, ?_, ?_, ?_⟩, ?_, ?_, ?_, fun i hi => h.lt i (List.mem_of_mem_erase hi), h.nodup.erase j, ?_⟩
  · refine few_set (t := { t with l := del t.l (kid B j) }) (fun e he => h.few e (mem_del.1 he).1) ?_
    have a1 := len_remove m (kn B j)
    have a2 := h.few _ (find_some h1)
    simp only [] at a2
    omega
  · show find (set _ _ _) P = _
    rw [hfi, if_pos rfl]
  · rw [hrem]; exact h2
  · rw [hrem]; exact h3
  · rw [hrem]
    show more m.kids = _
    have := h.sum
    rw [h4]
    unfold more
    rw [if_neg (by omega)]
  · rw [hrem]
    show ((m.names.length - 1 : Nat) : Int) = ((Kq.del m.names (kn B j)).length : Int)
    rw [hld.1]
  · rw [hrem]; exact h6
  · rw [hrem]; exact h7
  · rw [hrem]
    show (Kq.del m.names (kn B j)).length = _
    rw [hld.1, h8, List.length_erase_of_mem hj]
  · intro s2
    rw [hrem]
    show s2 ∈ Kq.del m.names (kn B j) ↔ _
    rw [Kq.mem_del, h9]
    constructor
    · rintro ⟨⟨i, hi, rfl⟩, hne⟩
      have hij : i ≠ j := fun e => hne (by rw [e])
      exact ⟨i, (List.mem_erase_of_ne hij).2 hi, rfl⟩
    · rintro ⟨i, hi, rfl⟩
      have hi2 := (h.nodup.mem_erase_iff).1 hi
      have h10 := h.lt i hi2.2
      exact ⟨⟨i, hi2.2, rfl⟩, fun e => hi2.1 (kn_inj (by omega) hj2 e)⟩
  · intro q nd2 hf
    have hf : find (set (del t.l (kid B j)) P (remove m (kn B j))) q = some nd2 := hf
    rw [hfi] at hf
    split at hf
    · rename_i e
      exact Or.inl e
    · split at hf
      · cases hf
      · rename_i hq1 hq2
        rcases h.nodes q nd2 hf with e | ⟨i, hi, e, e2⟩
        · exact Or.inl e
        · have hij : i ≠ j := fun e3 => hq2 (by rw [e, e3])
          exact Or.inr ⟨i, (List.mem_erase_of_ne hij).2 hi, e, e2⟩
  · intro i hi
    show ∃ nd, find (set (del t.l (kid B j)) P (remove m (kn B j))) (kid B i) = some nd
    have hi2 := (h.nodup.mem_erase_iff).1 hi
    have h10 := h.lt i hi2.2
    rw [hfi, if_neg (hb.ne_kid (by omega)), if_neg (fun e => hi2.1 (kid_inj (by omega) hj2 e))]
    exact h.there i hi2.2
  · show (set _ _ _).length = _
    rw [len_set, List.length_erase_of_mem hj]
    have hmem2 : kid B j ∈ keys t.l := List.mem_map.2 ⟨_, find_some hnd, rfl⟩
    have hk : keys (del t.l (kid B j)) = Kq.del (keys t.l) (kid B j) := by
      unfold keys del Kq.del
      rw [List.filter_map]
      rfl
    have hl := (len_del h.fine.rise hmem2).1
    rw [← hk] at hl
    have hl2 : (del t.l (kid B j)).length = t.l.length - 1 := by
      unfold keys at hl
      simpa using hl
    rw [hl2, h.len]
    omega
  · have := h.sum
    rw [List.length_erase_of_mem hj]
    omega
end
end Go.Proofs.YtpidafpaffpnaaaGreatDoor.Tq
namespace Go.Proofs.YtpidafpaffpnaaaGreatDoor.Pl
theorem of_inj {a b : List (List UInt8)} (ca : ∀ x ∈ a, ∀ c ∈ x, c ≠ 47) (cb : ∀ x ∈ b, ∀ c ∈ x, c ≠ 47) (e : of a = of b) : a = b := by
  cases a with
  | nil =>
    cases b with
    | nil => rfl
    | cons y b => have : of (y :: b) = 47 :: (y ++ of b) := rfl
                  rw [this] at e
                  cases e
  | cons x a =>
    cases b with
    | nil => have : of (x :: a) = 47 :: (x ++ of a) := rfl
             rw [this] at e
             cases e
    | cons y b =>
      have e1 := spl_of x a ca
      have e2 := spl_of y b cb
      have h1 : of (x :: a) = 47 :: (x ++ of a) := rfl
      have h2 : of (y :: b) = 47 :: (y ++ of b) := rfl
      rw [h1, h2] at e
      rw [(List.cons.inj e).2] at e1
      rw [← e1, e2]
/-- A path below another one. -/
theorem sub_parts {q s p : List UInt8} (hq : goodB q = true) (hs : nameB s = true) (hp : goodB p = true) (e : q ++ 47 :: s = p) : parts p = parts q ++ [s] := by
  obtain ⟨q1, q2, _⟩ := good_parts hq
  obtain ⟨p1, p2, _⟩ := good_parts hp
  refine of_inj (namesB_clean p2) (fun x hx c hc => ?_) ?_
  · rcases List.mem_append.1 hx with h | h
    · exact namesB_clean q2 x h c hc
    · simp at h
      rw [h] at hc
      exact nameB_clean hs c hc
  · rw [← p1, of_append, ← q1, ← e]
    simp [of]
theorem join_last {p : List UInt8} (hp : goodB p = true) : p = parent p ++ 47 :: name p := by
  obtain ⟨p1, p2, _⟩ := good_parts hp
  have h1 := namesB_len p2
  have hne : parts p ≠ [] := fun e => by rw [e] at h1; simp at h1
  have h2 := of_last hne
  rw [← p1] at h2
  unfold parent name
  rw [List.getLast?_eq_some_getLast hne]
  exact h2
end Go.Proofs.YtpidafpaffpnaaaGreatDoor.Pl
namespace Go.Proofs.YtpidafpaffpnaaaGreatDoor.Tq
open Kq

/-- The path of a child. -/
def sub (p s : ByteArray) : ByteArray := tb (p.data.toList ++ 47 :: s.data.toList)
theorem tb_back (p : ByteArray) : tb p.data.toList = p := by cases p; simp [tb]
theorem sub_up {q s p : ByteArray} (hq : Pl.goodB q.data.toList = true) (hs : Pl.nameB s.data.toList = true) (hp : Pl.goodB p.data.toList = true) (e : sub q s = p) : up p = some q ∧ nm p = s := by
  have e2 : q.data.toList ++ 47 :: s.data.toList = p.data.toList := by rw [← e]; unfold sub; rw [tb_data]
  have h := Pl.sub_parts hq hs hp e2
  have hl := Pl.namesB_len (Pl.good_parts hq).2.1
  refine ⟨?_, ?_⟩
  · unfold up Pl.parent
    rw [h, if_pos (by rw [List.length_append, List.length_singleton]; omega), List.dropLast_concat, ← (Pl.good_parts hq).1, tb_back]
  · unfold nm Pl.name
    rw [h]
    simp [tb_back]
theorem up_sub {p u : ByteArray} (hp : Pl.goodB p.data.toList = true) (h : up p = some u) : sub u (nm p) = p ∧ Pl.goodB u.data.toList = true := by
  unfold up at h
  split at h
  · rename_i h2
    have h3 := (Option.some.inj h).symm
    rw [h3]
    unfold sub nm
    rw [tb_data, tb_data, ← Pl.join_last hp, tb_back]
    exact ⟨rfl, (Pl.good_parent hp h2).1⟩
  · cases h
theorem up_num {p q : ByteArray} {k : Int} (hp : Pl.goodB p.data.toList = true) (h : num p k = some q) : up q = up p := by
  have hg := num_ok h
  unfold num at h
  split at h
  · rename_i hc
    have e := (Option.some.inj h).symm
    rw [e, tb_data] at hg
    have hcl : ∀ c ∈ Pl.dig10 k.toNat, c ≠ 47 := dig_clean (by omega)
    have h1 := Pl.num_parts hp hg hcl
    rw [e]
    unfold up
    rw [tb_data, h1.1, h1.2]
  · cases h
/-- All hangs together. -/
structure Snd (t : Tr) : Prop where
  par : ∀ p n u, find t.l p = some n → up p = some u → ∃ m, find t.l u = some m ∧ m.owner = 0 ∧ nm p ∈ m.names
  kid : ∀ p n s, find t.l p = some n → s ∈ n.names → ∃ m, find t.l (sub p s) = some m
  eph : ∀ p n, find t.l p = some n → n.owner ≠ 0 → n.names = []
  cnt : ∀ p n, find t.l p = some n → n.cnt = (n.names.length : Int)
theorem snd_new (r : Int) : Snd ⟨r, []⟩ := ⟨fun p n u h => (by cases h), fun p n s h => (by cases h), fun p n h => (by cases h), fun p n h => (by cases h)⟩
theorem good_of {t : Tr} (hf : Fine11 t) {p : ByteArray} {n : Kn} (h : find t.l p = some n) : Pl.goodB p.data.toList = true ∧ Node11 n := hf.nodes _ (find_some h)
theorem snd_set {t : Tr} (h : Snd t) {p : ByteArray} {n n' : Kn} (hp : find t.l p = some n) (ho : n'.owner = n.owner) (hn : n'.names = n.names) (hc : n'.cnt = n.cnt) : Snd { t with l := set t.l p n' } := by
  have hfi : ∀ q, find (set t.l p n') q = if q = p then some n' else find t.l q := fun q => by
    rw [find_set]
    by_cases hq : q = p
    · rw [if_pos hq, if_pos hq, hq, hp]
      rfl
    · rw [if_neg hq, if_neg hq]
  have old : ∀ q x, find (set t.l p n') q = some x → ∃ y, find t.l q = some y ∧ x.owner = y.owner ∧ x.names = y.names ∧ x.cnt = y.cnt := fun q x hx => by
    rw [hfi] at hx
    split at hx
    · rename_i e
      rw [← Option.some.inj hx, e]
      exact ⟨n, hp, ho, hn, hc⟩
    · exact ⟨x, hx, rfl, rfl, rfl⟩
  have fwd : ∀ q y, find t.l q = some y → ∃ x, find (set t.l p n') q = some x ∧ x.owner = y.owner ∧ x.names = y.names := fun q y hy => by
    rw [hfi]
    by_cases e : q = p
    · rw [if_pos e]
      rw [e, hp] at hy
      rw [← Option.some.inj hy]
      exact ⟨n', rfl, ho, hn⟩
    · rw [if_neg e]
      exact ⟨y, hy, rfl, rfl⟩
  refine ⟨fun q x u hx hu => ?_, fun q x s hx hs => ?_, fun q x hx hne => ?_, fun q x hx => ?_⟩
  · obtain ⟨y, hy, _⟩ := old q x hx
    obtain ⟨m, h1, h2, h3⟩ := h.par q y u hy hu
    obtain ⟨x2, g1, g2, g3⟩ := fwd u m h1
    exact ⟨x2, g1, by rw [g2]; exact h2, by rw [g3]; exact h3⟩
  · obtain ⟨y, hy, _, e, _⟩ := old q x hx
    rw [e] at hs
    obtain ⟨m, h1⟩ := h.kid q y s hy hs
    obtain ⟨x2, g1, _⟩ := fwd _ m h1
    exact ⟨x2, g1⟩
  · obtain ⟨y, hy, e1, e2, _⟩ := old q x hx
    rw [e2]
    exact h.eph q y hy (by rw [← e1]; exact hne)
  · obtain ⟨y, hy, _, e2, e3⟩ := old q x hx
    rw [e2, e3]
    exact h.cnt q y hy
/-- One is made. -/
theorem snd_make {t : Tr} (hf : Fine11 t) (h : Snd t) {p d : ByteArray} {own z : Int} (hp : Pl.goodB p.data.toList = true) (hu : ∀ u, up p = some u → ∃ m, find t.l u = some m ∧ m.owner = 0) : Snd (makeAt t (up p) p own z d).2 := by
  unfold makeAt
  split
  · exact h
  · rename_i hnone
    split
    · exact h
    · show Snd { t with l := ins (named t.l (up p) p) p (new z own d) }
      have hks := keys_named t.l (up p) p
      have hrs : Rises (keys (named t.l (up p) p)) := by rw [hks]; exact hf.rise
      have hn3 : find (named t.l (up p) p) p = none := (find_keys hks _).2 hnone
      cases hup : up p with
      | none =>
        rw [hup] at hrs hn3
        have hfi : ∀ q, find (ins (named t.l none p) p (new z own d)) q = if q = p then some (new z own d) else find t.l q := fun q => find_ins _ hrs hn3
        have ne : ∀ q x, find t.l q = some x → q ≠ p := fun q x hx e => by rw [e, hnone] at hx; cases hx
        refine ⟨fun q x u hx hqu => ?_, fun q x s hx hs => ?_, fun q x hx hne => ?_, fun q x hx => ?_⟩
        · have hx : find (ins (named t.l none p) p (new z own d)) q = some x := hx
          show ∃ m, find (ins (named t.l none p) p (new z own d)) u = some m ∧ _
          rw [hfi] at hx
          split at hx
          · rename_i e
            rw [e, hup] at hqu
            cases hqu
          · obtain ⟨m, h1, h2, h3⟩ := h.par q x u hx hqu
            rw [hfi, if_neg (ne u m h1)]
            exact ⟨m, h1, h2, h3⟩
        · have hx : find (ins (named t.l none p) p (new z own d)) q = some x := hx
          show ∃ m, find (ins (named t.l none p) p (new z own d)) _ = some m
          rw [hfi] at hx
          split at hx
          · rw [← Option.some.inj hx] at hs
            cases hs
          · obtain ⟨m, h1⟩ := h.kid q x s hx hs
            rw [hfi, if_neg (ne _ m h1)]
            exact ⟨m, h1⟩
        · have hx : find (ins (named t.l none p) p (new z own d)) q = some x := hx
          rw [hfi] at hx
          split at hx
          · rw [← Option.some.inj hx]; rfl
          · exact h.eph q x hx hne
        · have hx : find (ins (named t.l none p) p (new z own d)) q = some x := hx
          rw [hfi] at hx
          split at hx
          · rw [← Option.some.inj hx]; rfl
          · exact h.cnt q x hx
      | some u =>
        rw [hup] at hrs hn3
        obtain ⟨m, hm, hmo⟩ := hu u hup
        have hnd : named t.l (some u) p = set t.l u (add m (nm p)) := by
          unfold named
          simp only []
          rw [hm]
        rw [hnd] at hrs hn3 ⊢
        have hfi : ∀ q, find (ins (set t.l u (add m (nm p))) p (new z own d)) q = if q = p then some (new z own d) else if q = u then some (add m (nm p)) else find t.l q := fun q => by
          rw [find_ins _ hrs hn3, find_set]
          by_cases hq1 : q = p
          · rw [if_pos hq1, if_pos hq1]
          · rw [if_neg hq1, if_neg hq1]
            by_cases hq2 : q = u
            · rw [if_pos hq2, if_pos hq2, hq2, hm]
              rfl
            · rw [if_neg hq2, if_neg hq2]
        have ne : ∀ q x, find t.l q = some x → q ≠ p := fun q x hx e => by rw [e, hnone] at hx; cases hx
        have hsub := (up_sub hp hup).1
        have hao : (add m (nm p)).owner = 0 := by unfold add; split <;> exact hmo
        have hmem : ∀ s, s ∈ (add m (nm p)).names ↔ s = nm p ∨ s ∈ m.names := fun s => by
          cases hh : has m.names (nm p) with
          | true =>
            rw [add_no hh]
            constructor
            · exact Or.inr
            · rintro (rfl | h1)
              · exact has_iff.1 hh
              · exact h1
          | false => rw [add_yes hh]; exact Kq.mem_ins
        have hcnt : (add m (nm p)).cnt = ((add m (nm p)).names.length : Int) := by
          cases hh : has m.names (nm p) with
          | true => rw [add_no hh]; exact h.cnt u m hm
          | false =>
            rw [add_yes hh]
            show ((m.names.length + 1 : Nat) : Int) = ((Kq.ins m.names (nm p)).length : Int)
            rw [Kq.len_ins]
        have fwd : ∀ q y, find t.l q = some y → ∃ x, find (ins (set t.l u (add m (nm p))) p (new z own d)) q = some x ∧ (y.owner = 0 → x.owner = 0) ∧ ∀ s ∈ y.names, s ∈ x.names := fun q y hy => by
          rw [hfi, if_neg (ne q y hy)]
          by_cases e : q = u
          · rw [if_pos e]
            rw [e, hm] at hy
            rw [← Option.some.inj hy]
            exact ⟨_, rfl, fun _ => hao, fun s hs => (hmem s).2 (Or.inr hs)⟩
          · rw [if_neg e]
            exact ⟨y, hy, fun h => h, fun s hs => hs⟩
        refine ⟨fun q x v hx hqv => ?_, fun q x s hx hs => ?_, fun q x hx hne => ?_, fun q x hx => ?_⟩
        · have hx : find (ins (set t.l u (add m (nm p))) p (new z own d)) q = some x := hx
          show ∃ m2, find (ins (set t.l u (add m (nm p))) p (new z own d)) v = some m2 ∧ _
          rw [hfi] at hx
          split at hx
          · rename_i e
            rw [e, hup] at hqv
            have hv := Option.some.inj hqv
            rw [← hv, hfi, if_neg (ne u m hm), if_pos rfl]
            exact ⟨_, rfl, hao, (hmem _).2 (Or.inl (by rw [e]))⟩
          · split at hx
            · rename_i e
              obtain ⟨m2, h1, h2, h3⟩ := h.par u m v hm (by rw [← e]; exact hqv)
              obtain ⟨x2, g1, g2, g3⟩ := fwd v m2 h1
              exact ⟨x2, g1, g2 h2, g3 _ (by rw [e]; exact h3)⟩
            · obtain ⟨m2, h1, h2, h3⟩ := h.par q x v hx hqv
              obtain ⟨x2, g1, g2, g3⟩ := fwd v m2 h1
              exact ⟨x2, g1, g2 h2, g3 _ h3⟩
        · have hx : find (ins (set t.l u (add m (nm p))) p (new z own d)) q = some x := hx
          show ∃ m2, find (ins (set t.l u (add m (nm p))) p (new z own d)) (sub q s) = some m2
          rw [hfi] at hx
          split at hx
          · rw [← Option.some.inj hx] at hs
            cases hs
          · split at hx
            · rename_i e
              rw [← Option.some.inj hx] at hs
              rcases (hmem s).1 hs with e2 | hs
              · rw [e, e2, hsub, hfi, if_pos rfl]
                exact ⟨_, rfl⟩
              · obtain ⟨m2, h1⟩ := h.kid u m s hm hs
                obtain ⟨x2, g1, _⟩ := fwd _ m2 h1
                rw [e]
                exact ⟨x2, g1⟩
            · obtain ⟨m2, h1⟩ := h.kid q x s hx hs
              obtain ⟨x2, g1, _⟩ := fwd _ m2 h1
              exact ⟨x2, g1⟩
        · have hx : find (ins (set t.l u (add m (nm p))) p (new z own d)) q = some x := hx
          rw [hfi] at hx
          split at hx
          · rw [← Option.some.inj hx]; rfl
          · split at hx
            · rw [← Option.some.inj hx] at hne
              exact absurd hao hne
            · exact h.eph q x hx hne
        · have hx : find (ins (set t.l u (add m (nm p))) p (new z own d)) q = some x := hx
          rw [hfi] at hx
          split at hx
          · rw [← Option.some.inj hx]; rfl
          · split at hx
            · rw [← Option.some.inj hx]; exact hcnt
            · exact h.cnt q x hx
/-- One without children goes. -/
theorem snd_gone {t : Tr} (hf : Fine11 t) (h : Snd t) {p : ByteArray} {n : Kn} (hp : find t.l p = some n) (hn : n.names = []) : Snd { t with l := orphan (del t.l p) p } := by
  have hgp := (good_of hf hp).1
  have hfd : ∀ q, find (del t.l p) q = if q = p then none else find t.l q := fun q => find_del hf.rise
  -- no other node is under it
  have notup : ∀ q x, find t.l q = some x → up q ≠ some p := fun q x hx e => by
    obtain ⟨m, h1, _, h3⟩ := h.par q x p hx e
    rw [hp] at h1
    rw [← Option.some.inj h1, hn] at h3
    cases h3
  cases hup : up p with
  | none =>
    have e0 : orphan (del t.l p) p = del t.l p := by unfold orphan; rw [hup]
    rw [e0]
    refine ⟨fun q x u hx hqu => ?_, fun q x s hx hs => ?_, fun q x hx hne => ?_, fun q x hx => ?_⟩
    · have hx : find (del t.l p) q = some x := hx
      show ∃ m, find (del t.l p) u = some m ∧ _
      rw [hfd] at hx
      split at hx
      · cases hx
      · obtain ⟨m, h1, h2, h3⟩ := h.par q x u hx hqu
        have hup2 : u ≠ p := fun e => notup q x hx (by rw [← e]; exact hqu)
        rw [hfd, if_neg hup2]
        exact ⟨m, h1, h2, h3⟩
    · have hx : find (del t.l p) q = some x := hx
      show ∃ m, find (del t.l p) (sub q s) = some m
      rw [hfd] at hx
      split at hx
      · cases hx
      · obtain ⟨m, h1⟩ := h.kid q x s hx hs
        have hne : sub q s ≠ p := fun e => by
          have h2 := (sub_up (good_of hf hx).1 ((good_of hf hx).2.long s hs) hgp e).1
          rw [hup] at h2
          cases h2
        rw [hfd, if_neg hne]
        exact ⟨m, h1⟩
    · have hx : find (del t.l p) q = some x := hx
      rw [hfd] at hx
      split at hx
      · cases hx
      · exact h.eph q x hx hne
    · have hx : find (del t.l p) q = some x := hx
      rw [hfd] at hx
      split at hx
      · cases hx
      · exact h.cnt q x hx
  | some u =>
    obtain ⟨m, hm, hmo, hmn⟩ := h.par p n u hp hup
    have hpu : u ≠ p := fun e => notup p n hp (by rw [hup, e])
    have hdu : find (del t.l p) u = some m := by rw [hfd, if_neg hpu]; exact hm
    have e0 : orphan (del t.l p) p = set (del t.l p) u (remove m (nm p)) := by
      unfold orphan
      rw [hup]
      simp only []
      rw [hdu]
    rw [e0]
    have hmr := (good_of hf hm).2.rises
    have hrem := remove_yes (has_iff.2 hmn)
    have hsub := (up_sub hgp hup).1
    have hfi : ∀ q, find (set (del t.l p) u (remove m (nm p))) q = if q = u then some (remove m (nm p)) else if q = p then none else find t.l q := fun q => by
      rw [find_set]
      by_cases hq2 : q = u
      · rw [if_pos hq2, if_pos hq2, hq2, hdu]
        rfl
      · rw [if_neg hq2, if_neg hq2, hfd]
    have hmem : ∀ s, s ∈ (remove m (nm p)).names ↔ s ∈ m.names ∧ s ≠ nm p := fun s => by rw [hrem]; exact Kq.mem_del
    have hro : (remove m (nm p)).owner = 0 := by rw [hrem]; exact hmo
    have fwd : ∀ q y, find t.l q = some y → q ≠ p → ∃ x, find (set (del t.l p) u (remove m (nm p))) q = some x ∧ (y.owner = 0 → x.owner = 0) ∧ ∀ s ∈ y.names, (q = u → s ≠ nm p) → s ∈ x.names := fun q y hy hq => by
      rw [hfi]
      by_cases e : q = u
      · rw [if_pos e]
        rw [e, hm] at hy
        rw [← Option.some.inj hy]
        exact ⟨_, rfl, fun _ => hro, fun s hs hne => (hmem s).2 ⟨hs, hne e⟩⟩
      · rw [if_neg e, if_neg hq]
        exact ⟨y, hy, fun h => h, fun s hs _ => hs⟩
    have old : ∀ q x, find (set (del t.l p) u (remove m (nm p))) q = some x → q ≠ p ∧ ∃ y, find t.l q = some y ∧ x.owner = y.owner ∧ (∀ s ∈ x.names, s ∈ y.names ∧ (q = u → s ≠ nm p)) := fun q x hx => by
      rw [hfi] at hx
      split at hx
      · rename_i e
        rw [← Option.some.inj hx, e]
        exact ⟨hpu, m, hm, by rw [hro, hmo], fun s hs => ⟨((hmem s).1 hs).1, fun _ => ((hmem s).1 hs).2⟩⟩
      · rename_i e
        split at hx
        · cases hx
        · rename_i e2
          exact ⟨e2, x, hx, rfl, fun s hs => ⟨hs, fun e3 => absurd e3 e⟩⟩
    refine ⟨fun q x v hx hqv => ?_, fun q x s hx hs => ?_, fun q x hx hne => ?_, fun q x hx => ?_⟩
    · obtain ⟨hq, y, hy, _, _⟩ := old q x hx
      obtain ⟨m2, h1, h2, h3⟩ := h.par q y v hy hqv
      have hv : v ≠ p := fun e => notup q y hy (by rw [← e]; exact hqv)
      obtain ⟨x2, g1, g2, g3⟩ := fwd v m2 h1 hv
      refine ⟨x2, g1, g2 h2, g3 _ h3 (fun e en => ?_)⟩
      have hq2 := (up_sub (good_of hf hy).1 hqv).1
      rw [e, en, hsub] at hq2
      exact hq hq2.symm
    · obtain ⟨hq, y, hy, _, hys⟩ := old q x hx
      obtain ⟨hs1, hs2⟩ := hys s hs
      obtain ⟨m2, h1⟩ := h.kid q y s hy hs1
      have hne : sub q s ≠ p := fun e => by
        obtain ⟨h2, h3⟩ := sub_up (good_of hf hy).1 ((good_of hf hy).2.long s hs1) hgp e
        rw [hup] at h2
        exact hs2 (Option.some.inj h2).symm h3.symm
      obtain ⟨x2, g1, _⟩ := fwd _ m2 h1 hne
      exact ⟨x2, g1⟩
    · obtain ⟨hq, y, hy, e1, hys⟩ := old q x hx
      have h2 := h.eph q y hy (by rw [← e1]; exact hne)
      cases hxn : x.names with
      | nil => rfl
      | cons s l =>
        have h3 := (hys s (by rw [hxn]; exact List.mem_cons_self)).1
        rw [h2] at h3
        cases h3
    · have hx : find (set (del t.l p) u (remove m (nm p))) q = some x := hx
      rw [hfi] at hx
      split at hx
      · rw [← Option.some.inj hx, hrem]
        show ((m.names.length - 1 : Nat) : Int) = ((Kq.del m.names (nm p)).length : Int)
        rw [(len_del hmr hmn).1]
      · split at hx
        · cases hx
        · exact h.cnt q x hx
theorem snd_doo {t : Tr} {o : O} {s z : Int} (hf : Fine11 t) (h : Snd t) : Snd (doo t o s z).2 := by
  unfold doo
  split
  · exact h
  · rename_i hg
    have hg : Oq.good o = 0 := Classical.not_not.1 hg
    have hp := good_path hg
    split
    · exact h
    · split
      · unfold create
        simp only []
        split
        · rename_i hup
          have := snd_make (own := if o.flags = 1 ∨ o.flags = 3 then s else 0) (z := z) (d := o.data) hf h hp (fun u hu => by rw [hup] at hu; cases hu)
          rw [hup] at this
          exact this
        · rename_i u hup
          split
          · exact h
          · rename_i m hm
            split
            · exact h
            · rename_i hmo
              have hmo : m.owner = 0 := Classical.not_not.1 hmo
              split
              · split
                · exact h
                · rename_i q hq
                  have hqu : up q = some u := by rw [up_num hp hq]; exact hup
                  have := snd_make (own := if o.flags = 1 ∨ o.flags = 3 then s else 0) (z := z) (d := o.data) hf h (num_ok hq) (fun v hv => by rw [hqu] at hv; rw [← Option.some.inj hv]; exact ⟨m, hm, hmo⟩)
                  rw [hqu] at this
                  exact this
              · have := snd_make (own := if o.flags = 1 ∨ o.flags = 3 then s else 0) (z := z) (d := o.data) hf h hp (fun v hv => by rw [hup] at hv; rw [← Option.some.inj hv]; exact ⟨m, hm, hmo⟩)
                rw [hup] at this
                exact this
      · split
        · exact h
        · rename_i n hfn
          unfold atNode
          split
          · exact h
          · split
            · split
              · exact h
              · rename_i hnn
                exact snd_gone hf h hfn (Classical.not_not.1 hnn)
            · split
              · exact snd_set h hfn rfl rfl rfl
              · split
                · exact h
                · split
                  · exact h
                  · split
                    · exact h
                    · exact h
end Go.Proofs.YtpidafpaffpnaaaGreatDoor.Tq
namespace Go.Proofs.YtpidafpaffpnaaaGreatDoor.Tq
open Kq

/-- Each that is somebody's is one of these. -/
def Ow (t : Tr) (ss : List Int) : Prop := ∀ e ∈ t.l, e.2.owner ≠ 0 → 0 < e.2.owner ∧ e.2.owner ∈ ss
theorem ow_new (r : Int) : Ow ⟨r, []⟩ [] := fun e he => by cases he
theorem Ow.more {t : Tr} {ss tt : List Int} (h : Ow t ss) (hs : ∀ s ∈ ss, s ∈ tt) : Ow t tt := fun e he hn => ⟨(h e he hn).1, hs _ (h e he hn).2⟩
theorem ow_set {t : Tr} {p : ByteArray} {n : Kn} {ss : List Int} (h : Ow t ss) (hn : n.owner ≠ 0 → 0 < n.owner ∧ n.owner ∈ ss) : Ow { t with l := set t.l p n } ss := fun e he => by
  rcases mem_set he with he | ⟨rfl, _⟩
  · exact h e he
  · exact hn
theorem ow_ins {t : Tr} {p : ByteArray} {n : Kn} {ss : List Int} (h : Ow t ss) (hn : n.owner ≠ 0 → 0 < n.owner ∧ n.owner ∈ ss) : Ow { t with l := ins t.l p n } ss := fun e he => by
  rcases mem_ins.1 he with rfl | he
  · exact hn
  · exact h e he
theorem add_owner (n : Kn) (s : ByteArray) : (add n s).owner = n.owner := by unfold add; split <;> rfl
theorem remove_owner (n : Kn) (s : ByteArray) : (remove n s).owner = n.owner := by unfold remove; split <;> rfl
theorem ow_make {t : Tr} {u : Option ByteArray} {p d : ByteArray} {own z : Int} {ss : List Int} (h : Ow t ss) (ho : own ≠ 0 → 0 < own ∧ own ∈ ss) : Ow (makeAt t u p own z d).2 ss := by
  unfold makeAt
  split
  · exact h
  · split
    · exact h
    · refine ow_ins (t := { t with l := named t.l u p }) ?_ ho
      unfold named
      split
      · exact h
      · split
        · exact h
        · rename_i mn hf
          refine ow_set h ?_
          rw [add_owner]
          exact h _ (find_some hf)
theorem ow_doo {t : Tr} {o : O} {s z : Int} {ss : List Int} (h : Ow t ss) : Ow (doo t o s z).2 (s :: ss) := by
  have h1 := h.more (tt := s :: ss) (fun x hx => List.mem_cons_of_mem _ hx)
  unfold doo
  split
  · exact h1
  · split
    · exact h1
    · rename_i hs
      have ho : (if o.flags = 1 ∨ o.flags = 3 then s else 0) ≠ 0 → 0 < (if o.flags = 1 ∨ o.flags = 3 then s else 0) ∧ (if o.flags = 1 ∨ o.flags = 3 then s else 0) ∈ s :: ss := by
        split
        · exact fun _ => ⟨by omega, List.mem_cons_self⟩
        · exact fun h => absurd rfl h
      split
      · unfold create
        simp only []
        split
        · exact ow_make h1 ho
        · split
          · exact h1
          · split
            · exact h1
            · split
              · split
                · exact h1
                · exact ow_make h1 ho
              · exact ow_make h1 ho
      · split
        · exact h1
        · rename_i n hf
          unfold atNode
          split
          · exact h1
          · split
            · split
              · exact h1
              · show Ow { t with l := orphan (del t.l o.path) o.path } (s :: ss)
                have h2 : Ow { t with l := del t.l o.path } (s :: ss) := fun e he => h1 e (List.mem_filter.1 he).1
                unfold orphan
                split
                · exact h2
                · split
                  · exact h2
                  · rename_i m hm
                    refine ow_set (t := { t with l := del t.l o.path }) h2 ?_
                    rw [remove_owner]
                    exact h2 _ (find_some hm)
            · split
              · exact ow_set h1 (h1 _ (find_some hf))
              · split
                · exact h1
                · split
                  · exact h1
                  · split
                    · exact h1
                    · exact h1
/-- How many are somebody's; how many are one of these's. -/
def ephs (t : Tr) : Nat := (t.l.filter fun e => decide (e.2.owner ≠ 0)).length
def mine (l : List En) (ss : List Int) : Nat := (l.filter fun e => decide (e.2.owner ∈ ss)).length
theorem len_ofs {t : Tr} {s : Int} (hs : 0 < s) : (ofs t s).length = (t.l.filter fun e => decide (e.2.owner = s)).length := by
  unfold ofs
  rw [if_pos hs, List.length_map]
theorem ofs_zero (t : Tr) : ofs t 0 = [] := by unfold ofs; rw [if_neg (by decide)]
theorem mine_nil (l : List En) : mine l [] = 0 := by
  unfold mine
  rw [List.filter_eq_nil_iff.2 (fun e _ => by simp)]
  rfl
/-- One more of them. -/
theorem mine_cons (l : List En) (ss : List Int) (s : Int) (hs : s ∉ ss) : mine l (ss ++ [s]) = mine l ss + (l.filter fun e => decide (e.2.owner = s)).length := by
  unfold mine
  induction l with
  | nil => rfl
  | cons e l ih =>
    simp only [List.filter_cons]
    by_cases h1 : e.2.owner ∈ ss
    · have h2 : e.2.owner ≠ s := fun h => hs (h ▸ h1)
      rw [if_pos (by simp [h1]), if_pos (by simp [h1]), if_neg (by simp [h2])]
      simp only [List.length_cons, ih]
      omega
    · by_cases h2 : e.2.owner = s
      · rw [if_pos (by simp [h2]), if_neg (by simp [h1]), if_pos (by simp [h2])]
        simp only [List.length_cons, ih]
        omega
      · rw [if_neg (by simp [h1, h2]), if_neg (by simp [h1]), if_neg (by simp [h2])]
        exact ih
theorem mine_all {t : Tr} {ss tt : List Int} (h : Ow t tt) (hp : ∀ s ∈ ss, 0 < s) (hs : ∀ s ∈ tt, s < 1 ∨ s ∈ ss) : mine t.l ss = ephs t := by
  unfold mine ephs
  congr 1
  refine List.filter_congr (fun e he => ?_)
  by_cases h0 : e.2.owner = 0
  · have h2 : e.2.owner ∉ ss := fun hm => by have := hp _ hm; omega
    simp [h0] at h2 ⊢
    exact h2
  · have h1 := h e he h0
    rcases hs _ h1.2 with h3 | h3
    · omega
    · simp [h0, h3]
theorem mem_ofs {t : Tr} {p : ByteArray} {n : Kn} (h : find t.l p = some n) (hp : 0 < n.owner) : p ∈ ofs t n.owner := by
  unfold ofs
  rw [if_pos hp, List.mem_map]
  exact ⟨(p, n), List.mem_filter.2 ⟨find_some h, by simp⟩, rfl⟩
/-- Counted one by one. -/
theorem ephs_take (t : Tr) : ephs t = (t.l.map fun e => if e.2.owner ≠ 0 then 1 else 0).sum := by
  unfold ephs
  generalize t.l = l
  induction l with
  | nil => rfl
  | cons e l ih =>
    simp only [List.filter_cons, List.map_cons, List.sum_cons]
    by_cases h : e.2.owner = 0
    · rw [if_neg (by simp [h]), if_neg (by simp [h]), ih]
      omega
    · rw [if_pos (by simp [h]), if_pos h, List.length_cons, ih]
      omega
end Go.Proofs.YtpidafpaffpnaaaGreatDoor.Tq
namespace Go.Proofs.YtpidafpaffpnaaaGreatDoor
open Go.RowKit

/-- A result's cells; its Names lie elsewhere. -/
def xc (x : X) (nv : Value) : List Value := [.int .i64 x.err, .string x.path, .string x.data, nv, .int .i64 x.made, .int .i64 x.changed, .int .i64 x.ver, .int .i64 x.kids, .int .i64 x.owner, .int .i64 x.len, .int .i64 x.cnt]

/-- A value is a slice of texts, with what room it has. -/
def Sq (w : World) (u : Value) (ss : List ByteArray) : Prop := ∃ av k c, u = .slice av k c ∧ k = ss.length ∧ k ≤ c ∧ (av = none → c = 0) ∧ ∀ (j : Nat) s, ss[j]? = some s → ∃ g o, av = some ⟨g, o, none⟩ ∧ w.cell? ⟨g, o + j, none⟩ = some (.string s)

theorem Sq.below {w w' : World} {v : Value} {ss : List ByteArray} (h : Sq w v ss) (hb : Below w.heap.size w w') : Sq w' v ss := by
  obtain ⟨av, k, c, hv, hk, hc, hn, hs⟩ := h
  refine ⟨av, k, c, hv, hk, hc, hn, fun j s hs2 => ?_⟩
  obtain ⟨g, o, ha, hcell⟩ := hs j s hs2
  exact ⟨g, o, ha, Below.kept hb hcell⟩

theorem Sq.ss {w : World} {v : Value} {ss : List ByteArray} (h : Sq w v ss) : Ss w v ss := by
  obtain ⟨av, k, c, hv, hk, _, _, hs⟩ := h
  exact ⟨av, k, c, hv, hk, hs⟩

theorem Sq.nil (w : World) : Sq w (.slice none 0 0) [] := ⟨_, _, _, rfl, rfl, Nat.le_refl _, fun _ => rfl, fun j s hs => by simp at hs⟩

/-- Texts that are there lie at a plain address. -/
theorem Sq.at {w : World} {v : Value} {ss : List ByteArray} (h : Sq w v ss) (h0 : 0 < ss.length) : ∃ g o c, v = .slice (some ⟨g, o, none⟩) ss.length c ∧ ss.length ≤ c ∧ ∀ (j : Nat) s, ss[j]? = some s → w.cell? ⟨g, o + j, none⟩ = some (.string s) := by
  obtain ⟨av, k, c, rfl, hk, hkc, hn, hc⟩ := h
  obtain ⟨g, o, rfl, _⟩ := hc 0 ss[0] (List.getElem?_eq_getElem h0)
  refine ⟨g, o, c, by rw [hk], by omega, fun j s hs => ?_⟩
  obtain ⟨g', o', e, h1⟩ := hc j s hs
  simp only [Option.some.injEq, Addr.mk.injEq, and_true] at e
  obtain ⟨rfl, rfl⟩ := e
  exact h1

/-- A value is a slice of results. -/
def Rl (w : World) (v : Value) (xs : List X) : Prop := ∃ av k c, v = .slice av k c ∧ k = xs.length ∧ k ≤ c ∧ (av = none → c = 0) ∧ ∀ (j : Nat) x, xs[j]? = some x → ∃ g b nv, av = some ⟨g, b, none⟩ ∧ Sq w nv x.names ∧ ∀ (i : Nat) u, (xc x nv)[i]? = some u → w.cell? ⟨g, b + (j * 11 + i), none⟩ = some u

theorem Rl.below {w w' : World} {v : Value} {xs : List X} (h : Rl w v xs) (hb : Below w.heap.size w w') : Rl w' v xs := by
  obtain ⟨av, k, c, hv, hk, hc, hn, hs⟩ := h
  refine ⟨av, k, c, hv, hk, hc, hn, fun j x hx => ?_⟩
  obtain ⟨g, b, nv, ha, hnv, hcell⟩ := hs j x hx
  exact ⟨g, b, nv, ha, hnv.below hb, fun i u hu => Below.kept hb (hcell i u hu)⟩

theorem Rl.nil (w : World) : Rl w (.slice none 0 0) [] := ⟨_, _, _, rfl, rfl, Nat.le_refl _, fun _ => rfl, fun j s hs => by simp at hs⟩

/-- The eleven cells of a result at a place. -/
structure At11 (w : World) (g b : Nat) (x : X) (nv : Value) : Prop where
  c0 : w.cell? ⟨g, b, none⟩ = some (.int .i64 x.err)
  c1 : w.cell? ⟨g, b + 1, none⟩ = some (.string x.path)
  c2 : w.cell? ⟨g, b + 2, none⟩ = some (.string x.data)
  c3 : w.cell? ⟨g, b + 3, none⟩ = some nv
  c4 : w.cell? ⟨g, b + 4, none⟩ = some (.int .i64 x.made)
  c5 : w.cell? ⟨g, b + 5, none⟩ = some (.int .i64 x.changed)
  c6 : w.cell? ⟨g, b + 6, none⟩ = some (.int .i64 x.ver)
  c7 : w.cell? ⟨g, b + 7, none⟩ = some (.int .i64 x.kids)
  c8 : w.cell? ⟨g, b + 8, none⟩ = some (.int .i64 x.owner)
  c9 : w.cell? ⟨g, b + 9, none⟩ = some (.int .i64 x.len)
  c10 : w.cell? ⟨g, b + 10, none⟩ = some (.int .i64 x.cnt)

theorem At11.of {w : World} {g b : Nat} {x : X} {nv : Value} (h : ∀ (i : Nat) u, (xc x nv)[i]? = some u → w.cell? ⟨g, b + i, none⟩ = some u) : At11 w g b x nv :=
  ⟨h 0 _ rfl, h 1 _ rfl, h 2 _ rfl, h 3 _ rfl, h 4 _ rfl, h 5 _ rfl, h 6 _ rfl, h 7 _ rfl, h 8 _ rfl, h 9 _ rfl, h 10 _ rfl⟩

theorem At11.below {w w' : World} {g b : Nat} {x : X} {nv : Value} (h : At11 w g b x nv) (hb : Below w.heap.size w w') : At11 w' g b x nv :=
  ⟨Below.kept hb h.c0, Below.kept hb h.c1, Below.kept hb h.c2, Below.kept hb h.c3, Below.kept hb h.c4, Below.kept hb h.c5, Below.kept hb h.c6, Below.kept hb h.c7, Below.kept hb h.c8, Below.kept hb h.c9, Below.kept hb h.c10⟩

theorem Rl.at {w : World} {v : Value} {xs : List X} (h : Rl w v xs) (h0 : 0 < xs.length) : ∃ g b c, v = .slice (some ⟨g, b, none⟩) xs.length c ∧ xs.length ≤ c ∧ ∀ (j : Nat) x, xs[j]? = some x → ∃ nv, Sq w nv x.names ∧ At11 w g (b + j * 11) x nv := by
  obtain ⟨av, k, c, rfl, hk, hc, hn, hs⟩ := h
  obtain ⟨g, b, nv, rfl, _⟩ := hs 0 xs[0] (List.getElem?_eq_getElem h0)
  refine ⟨g, b, c, by rw [hk], by omega, fun j x hx => ?_⟩
  obtain ⟨g', b', nv', e, hnv, hcell⟩ := hs j x hx
  simp only [Option.some.injEq, Addr.mk.injEq, and_true] at e
  obtain ⟨rfl, rfl⟩ := e
  exact ⟨nv', hnv, At11.of fun i u hu => by have := hcell i u hu; rw [← Nat.add_assoc] at this; exact this⟩

/-- Is one text too long? -/
def longB (ts : List ByteArray) : Bool := ts.any fun t => decide (100 < t.size)
/-- Is a result more than is asked of? -/
def heavyX (x : X) : Bool := decide (300 < x.path.size) || decide (300 < x.data.size) || decide (40 < x.names.length) || longB x.names
/-- Is a list of results? -/
def heavyB (xs : List X) : Bool := decide (20 < xs.length) || xs.any heavyX

end Go.Proofs.YtpidafpaffpnaaaGreatDoor
