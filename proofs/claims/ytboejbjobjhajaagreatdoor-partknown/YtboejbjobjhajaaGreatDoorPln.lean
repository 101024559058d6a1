/- What is of no program: paths as lists of names over bytes: cutting at the slash, joining, parents, what is within what. What is of no program: a path with more behind it; two paths of unlike first names. What is of no program: a cut text, one byte more. Numbers in eight bytes, the highest first: plain reckoning, no program. Ops and lists of Ops, wherever they lie. A node, and its changes: plain reckoning, no program. What may be asked: plain reckoning, no program. Replies in bytes, and back: plain reckoning, no program. A node's bytes, and back: plain reckoning. What stat's calls are asked to answer (to be proved of the landed code). A tree of nodes, plainly: no program. What Do leaves of a tree: plain reckoning. What Do answers to a few Ops: plain reckoning. What is of no program: numbers of ten digits behind a path: their order, and what a numbered path is. Numbered children of one node: plain reckoning. Whatever is done, each node's Parent is there, and has its name: plain reckoning. Whose the ephemeral nodes are: plain reckoning. Results and lists of them, wherever they lie; what the statements' own 'heavy' answers. -/
import Derived.Lib.SplitLaws
import Derived.Lib.LastIndexByte
import Derived.Lib.ItoaNum
import Derived.Lib.Join
import Derived.Lib.AppendStr
import Derived.Test.YtboejbjobjhajaaGreatDoorBas
import Derived.BigRegion
import Derived.Deep.QuietTactic
import Derived.BigQuiet
import Derived.Deep.RegionWith
import GoSem.Op.String
namespace Go.Proofs.YtboejbjobjhajaaGreatDoor.Pl

def spl : List UInt8 → List (List UInt8)
  | [] => [[]]
  | c :: l => if c = 47 then [] :: spl l else match spl l with
    | [] => [[c]]
    | h :: t => (c :: h) :: t

theorem spl_ne (l : List UInt8) : spl l ≠ [] := by
  cases l with
  | nil => simp [spl]
  | cons c l =>
    simp only [spl]
    split
    · simp
    · split <;> simp

theorem spl_slash (l : List UInt8) : spl (47 :: l) = [] :: spl l := by simp [spl]

theorem spl_other {c : UInt8} (hc : c ≠ 47) {l h : List UInt8} {t : List (List UInt8)} (e : spl l = h :: t) : spl (c :: l) = (c :: h) :: t := by
  simp [spl, hc, e]

theorem spl_form (l : List UInt8) : ∃ h t, spl l = h :: t := by
  cases e : spl l with
  | nil => exact absurd e (spl_ne l)
  | cons h t => exact ⟨h, t, rfl⟩

def of : List (List UInt8) → List UInt8
  | [] => []
  | n :: t => 47 :: (n ++ of t)

theorem of_append (a b : List (List UInt8)) : of (a ++ b) = of a ++ of b := by
  induction a with
  | nil => rfl
  | cons n t ih => simp [of, ih, List.append_assoc]

theorem of_spl (l : List UInt8) : of (spl l) = 47 :: l := by
  induction l with
  | nil => rfl
  | cons c l ih =>
    obtain ⟨h, t, e⟩ := spl_form l
    by_cases hc : c = 47
    · subst hc; rw [spl_slash, of, ih]; rfl
    · rw [spl_other hc e]
      rw [e, of] at ih
      have := List.cons.inj ih
      rw [of, List.cons_append, this.2]

theorem spl_plain (n : List UInt8) (h : ∀ c ∈ n, c ≠ 47) : spl n = [n] := by
  induction n with
  | nil => rfl
  | cons c n ih =>
    exact spl_other (h c (List.mem_cons_self ..)) (ih fun x hx => h x (List.mem_cons_of_mem _ hx))

theorem spl_join (n l : List UInt8) (h : ∀ c ∈ n, c ≠ 47) : spl (n ++ 47 :: l) = n :: spl l := by
  induction n with
  | nil => exact spl_slash l
  | cons c n ih =>
    exact spl_other (h c (List.mem_cons_self ..)) (ih fun x hx => h x (List.mem_cons_of_mem _ hx))

theorem spl_of (n : List UInt8) (t : List (List UInt8)) (h : ∀ x ∈ n :: t, ∀ c ∈ x, c ≠ 47) : spl (n ++ of t) = n :: t := by
  induction t generalizing n with
  | nil => rw [of, List.append_nil]; exact spl_plain n (h n (List.mem_cons_self ..))
  | cons m t ih =>
    rw [of, spl_join n _ (h n (List.mem_cons_self ..)), ih m fun x hx => h x (List.mem_cons_of_mem _ hx)]

theorem spl_length (l : List UInt8) : (spl l).length = l.count 47 + 1 := by
  induction l with
  | nil => rfl
  | cons c l ih =>
    obtain ⟨h, t, e⟩ := spl_form l
    rw [e] at ih
    by_cases hc : c = 47
    · subst hc; rw [spl_slash, e, List.length_cons, ih, List.count_cons_self]
    · rw [spl_other hc e, List.count_cons_of_ne hc, ← ih]; rfl

theorem spl_short (l : List UInt8) : ∀ x ∈ spl l, x.length ≤ l.length := by
  induction l with
  | nil => simp [spl]
  | cons c l ih =>
    obtain ⟨h, t, e⟩ := spl_form l
    rw [e] at ih
    by_cases hc : c = 47
    · subst hc; rw [spl_slash, e]; intro x hx
      rcases List.mem_cons.1 hx with rfl | hx
      · simp
      · have := ih x hx; simp only [List.length_cons]; omega
    · rw [spl_other hc e]; intro x hx
      rcases List.mem_cons.1 hx with rfl | hx
      · have := ih h (List.mem_cons_self ..); simp only [List.length_cons]; omega
      · have := ih x (List.mem_cons_of_mem _ hx); simp only [List.length_cons]; omega

theorem splitK_spl (s : List UInt8) : ∀ k, s.count 47 ≤ k → Lib.splitK [47] 0 k s = spl s := by
  induction s with
  | nil =>
    intro k _
    cases k with
    | zero => rfl
    | succ k => rfl
  | cons b l ih =>
    intro k hk
    obtain ⟨h, t, e⟩ := spl_form l
    by_cases hb : b = 47
    · subst hb
      rw [List.count_cons_self] at hk
      obtain ⟨j, rfl⟩ : ∃ j, k = j + 1 := ⟨k - 1, by omega⟩
      have hi : Lib.index (47 :: l) [47] = 0 := by simp [Lib.index]
      rw [Lib.splitK, hi, spl_slash]
      simp [ih j (by omega)]
    · have hk' : l.count 47 ≤ k := by rw [List.count_cons_of_ne hb] at hk; exact hk
      have hpre : [(47 : UInt8)].isPrefixOf (b :: l) = false := by
        have : ((47 : UInt8) == b) = false := by simpa using Ne.symm hb
        simp [List.isPrefixOf, this]
      have ihk := ih k hk'
      rw [e] at ihk
      cases k with
      | zero =>
        simp only [Lib.splitK] at ihk ⊢
        have := List.cons.inj ihk
        rw [spl_other hb e, ← this.1, ← this.2]
      | succ k =>
        have hi : Lib.index (b :: l) [47] = if Lib.index l [47] == -1 then -1 else Lib.index l [47] + 1 := by
          conv => lhs; unfold Lib.index
          rw [hpre]; rfl
        by_cases hm : Lib.index l [47] = -1
        · rw [Lib.splitK, hm] at ihk
          rw [Lib.splitK, hi, hm]
          have := List.cons.inj (show [l] = h :: t from ihk)
          rw [spl_other hb e, ← this.1, ← this.2]; rfl
        · have hge := Lib.index_ge l [47]
          obtain ⟨i, hi'⟩ : ∃ i : Nat, Lib.index l [47] = i := ⟨(Lib.index l [47]).toNat, by omega⟩
          rw [Lib.splitK, hi', if_neg (by simp)] at ihk
          have := List.cons.inj ihk
          rw [Lib.splitK, hi, hi', if_neg (show ¬ ((i : Int) == -1) = true by simp), if_neg (by simp; omega), spl_other hb e, ← this.1, ← this.2]
          have e1 : ((i : Int) + 1).toNat = i + 1 := by omega
          simp [e1]

theorem split_spl (s : List UInt8) : Lib.split s [47] = spl s := by
  unfold Lib.split
  rw [Lib.count_one]
  exact splitK_spl s _ (Nat.le_refl _)

def byteB (c : UInt8) : Bool := decide (33 ≤ c.toNat) && decide (c.toNat ≤ 126) && !(c == 47)
def nameB (n : List UInt8) : Bool := decide (1 ≤ n.length) && decide (n.length ≤ 40) && !(n == [46]) && !(n == [46, 46]) && n.all byteB
theorem all_no {l : List UInt8} {c : UInt8} (h : c ∈ l) (hb : byteB c = false) : l.all byteB = false := by
  rw [List.all_eq_false]; exact ⟨c, h, by rw [hb]; simp⟩
theorem byteB_low {c : UInt8} (h : (c.toNat : Int) < 33) : byteB c = false := by
  have : decide (33 ≤ c.toNat) = false := by simp; omega
  simp [byteB, this]
theorem byteB_high {c : UInt8} (h : (126 : Int) < c.toNat) : byteB c = false := by
  have : decide (c.toNat ≤ 126) = false := by simp; omega
  simp [byteB, this]
theorem byteB_slash {c : UInt8} (h : ((c.toNat : Int) == 47) = true) : byteB c = false := by
  have : c = 47 := UInt8.toNat_inj.1 (by have := beq_iff_eq.1 h; simp; omega)
  subst this; rfl
theorem byteB_yes {c : UInt8} (h1 : (33 : Int) ≤ c.toNat) (h2 : (c.toNat : Int) ≤ 126) (h3 : ((c.toNat : Int) == 47) = false) : byteB c = true := by
  have e1 : decide (33 ≤ c.toNat) = true := by simp; omega
  have e2 : decide (c.toNat ≤ 126) = true := by simp; omega
  have e3 : (c == 47) = false := by
    rw [beq_eq_false_iff_ne] at h3 ⊢
    intro e; subst e; exact h3 rfl
  rw [byteB, e1, e2, e3]; rfl
theorem nameB_none {n : List UInt8} (h : n = []) : nameB n = false := by subst h; rfl
theorem nameB_long {n : List UInt8} (h : 40 < n.length) : nameB n = false := by
  have : decide (n.length ≤ 40) = false := by simpa using h
  simp [nameB, this]
theorem nameB_dot {n : List UInt8} (h : n = [46]) : nameB n = false := by subst h; rfl
theorem nameB_dots {n : List UInt8} (h : n = [46, 46]) : nameB n = false := by subst h; rfl
theorem nameB_rest {n : List UInt8} (h1 : n ≠ []) (h2 : n.length ≤ 40) (h3 : n ≠ [46]) (h4 : n ≠ [46, 46]) : nameB n = n.all byteB := by
  have e1 : decide (1 ≤ n.length) = true := decide_eq_true (List.length_pos_iff.2 h1)
  have e2 : decide (n.length ≤ 40) = true := by simpa using h2
  have e3 : (n == [46]) = false := by simpa using h3
  have e4 : (n == [46, 46]) = false := by simpa using h4
  rw [nameB, e1, e2, e3, e4]; rfl
def namesB (l : List (List UInt8)) : Bool := decide (1 ≤ l.length) && decide (l.length ≤ 8) && l.all nameB
theorem namesB_many {l : List (List UInt8)} (h : 8 < l.length) : namesB l = false := by
  have : decide (l.length ≤ 8) = false := by simpa using h
  simp [namesB, this]
theorem namesB_rest {l : List (List UInt8)} (h1 : 1 ≤ l.length) (h8 : l.length ≤ 8) : namesB l = l.all nameB := by
  rw [namesB, decide_eq_true h1, decide_eq_true h8]; rfl
theorem names_no {l : List (List UInt8)} {n : List UInt8} (h : n ∈ l) (hb : nameB n = false) : l.all nameB = false := by
  rw [List.all_eq_false]; exact ⟨n, h, by rw [hb]; simp⟩
def goodB (p : List UInt8) : Bool := decide (p.length ≤ 200) && (p.head? == some 47) && namesB (spl (p.drop 1))
def parts (p : List UInt8) : List (List UInt8) := if goodB p then spl (p.drop 1) else []

theorem nameB_clean {n : List UInt8} (h : nameB n = true) : ∀ c ∈ n, c ≠ 47 := by
  unfold nameB at h
  simp only [Bool.and_eq_true, List.all_eq_true] at h
  intro c hc
  have := h.2 c hc
  unfold byteB at this
  simp only [Bool.and_eq_true] at this
  simpa using this.2

theorem namesB_clean {l : List (List UInt8)} (h : namesB l = true) : ∀ x ∈ l, ∀ c ∈ x, c ≠ 47 := by
  unfold namesB at h
  simp only [Bool.and_eq_true, List.all_eq_true] at h
  exact fun x hx => nameB_clean (h.2 x hx)

theorem good_iff (p : List UInt8) : goodB p = true ↔ ∃ l, namesB l = true ∧ p = of l ∧ p.length ≤ 200 := by
  constructor
  · intro h
    unfold goodB at h
    simp only [Bool.and_eq_true, decide_eq_true_eq] at h
    obtain ⟨⟨h1, h2⟩, h3⟩ := h
    cases p with
    | nil => simp at h2
    | cons c r =>
      have : c = 47 := by simpa using h2
      subst this
      exact ⟨spl r, by simpa using h3, by rw [of_spl], h1⟩
  · rintro ⟨l, hl, rfl, h1⟩
    have hc := namesB_clean hl
    cases l with
    | nil => simp [namesB] at hl
    | cons n t =>
      unfold goodB
      simp only [Bool.and_eq_true, decide_eq_true_eq]
      refine ⟨⟨h1, by simp [of]⟩, ?_⟩
      rw [of, List.drop_succ_cons, List.drop_zero, spl_of n t hc]; exact hl

theorem parts_of {l : List (List UInt8)} (hl : namesB l = true) (h : (of l).length ≤ 200) : parts (of l) = l := by
  have hg : goodB (of l) = true := (good_iff _).2 ⟨l, hl, rfl, h⟩
  unfold parts
  rw [hg, if_pos rfl]
  have hc := namesB_clean hl
  cases l with
  | nil => simp [namesB] at hl
  | cons n t => rw [of, List.drop_succ_cons, List.drop_zero, spl_of n t hc]

theorem good_parts {p : List UInt8} (h : goodB p = true) : p = of (parts p) ∧ namesB (parts p) = true ∧ p.length ≤ 200 := by
  obtain ⟨l, hl, rfl, h1⟩ := (good_iff p).1 h
  rw [parts_of hl h1]; exact ⟨rfl, hl, h1⟩

theorem bad_parts {p : List UInt8} (h : goodB p = false) : parts p = [] := by
  unfold parts; rw [h]; rfl

theorem good_head {p : List UInt8} (h : Lib.hasPrefix p [47] = false) : goodB p = false := by
  have : (p.head? == some 47) = false := by
    cases p with
    | nil => rfl
    | cons c r =>
      rw [Lib.hasPrefix, List.isPrefixOf_cons_cons] at h
      rw [beq_eq_false_iff_ne]
      intro e
      have : c = 47 := by simpa using e
      subst this
      simp at h
  simp [goodB, this]
theorem good_rest {p : List UInt8} (h1 : p.length ≤ 200) (h2 : Lib.hasPrefix p [47] = true) : goodB p = namesB (spl (p.drop 1)) := by
  have e2 : (p.head? == some 47) = true := by
    cases p with
    | nil => simp [Lib.hasPrefix] at h2
    | cons c r =>
      rw [Lib.hasPrefix, List.isPrefixOf_cons_cons] at h2
      simp only [Bool.and_eq_true, beq_iff_eq] at h2
      rw [← h2.1]; rfl
  rw [goodB, decide_eq_true h1, e2]; rfl
theorem prefix_pos {p : List UInt8} (h : Lib.hasPrefix p [47] = true) : 1 ≤ p.length := by
  cases p with
  | nil => simp [Lib.hasPrefix] at h
  | cons c r => simp
/-! ### Parents, names, what is within what -/

def parent (p : List UInt8) : List UInt8 := of (parts p).dropLast
def name (p : List UInt8) : List UInt8 := (parts p).getLast?.getD []
theorem namesB_len {l : List (List UInt8)} (h : namesB l = true) : 1 ≤ l.length ∧ l.length ≤ 8 := by
  unfold namesB at h
  simp only [Bool.and_eq_true, decide_eq_true_eq] at h
  exact h.1

theorem namesB_sub {l m : List (List UInt8)} (h : namesB l = true) (hs : ∀ x ∈ m, x ∈ l) (h1 : 1 ≤ m.length) (h8 : m.length ≤ 8) : namesB m = true := by
  unfold namesB at h ⊢
  simp only [Bool.and_eq_true, decide_eq_true_eq, List.all_eq_true] at h ⊢
  exact ⟨⟨h1, h8⟩, fun x hx => h.2 x (hs x hx)⟩

theorem good_pre {l m : List (List UInt8)} (h : namesB l = true) (hl : (of l).length ≤ 200) (hp : m <+: l) (h1 : 1 ≤ m.length) : namesB m = true ∧ (of m).length ≤ 200 := by
  obtain ⟨t, rfl⟩ := hp
  have h8 := namesB_len h
  rw [of_append] at hl
  simp only [List.length_append] at h8 hl
  exact ⟨namesB_sub h (fun x hx => List.mem_append_left _ hx) h1 (by omega), by omega⟩

theorem good_parent {p : List UInt8} (h : goodB p = true) (h2 : 2 ≤ (parts p).length) : goodB (parent p) = true ∧ parts (parent p) = (parts p).dropLast := by
  obtain ⟨e, hn, hl⟩ := good_parts h
  rw [e] at hl
  obtain ⟨a, b⟩ := good_pre hn hl (List.dropLast_prefix _) (by rw [List.length_dropLast]; omega)
  exact ⟨(good_iff _).2 ⟨_, a, rfl, b⟩, parts_of a b⟩

theorem lastIndex_of (s : ByteArray) (a n : List UInt8) (e : s.data.toList = a ++ 47 :: n) (hn : ∀ c ∈ n, c ≠ 47) : Lib.lastIndexByte s 47 = a.length := by
  have hsz : s.size = a.length + (n.length + 1) := by
    have : s.data.toList.length = s.size := by simp
    rw [← this, e]; simp
  have hget : ∀ j, j < s.size → s.data[j]! = (a ++ 47 :: n)[j]! := by
    intro j hj
    have h1 : j < s.data.toList.length := by simpa using hj
    have h2 : j < s.data.size := by simpa using hj
    have : s.data[j]! = s.data.toList[j]! := by
      rw [getElem!_pos s.data j h2, getElem!_pos s.data.toList j h1, Array.getElem_toList]
    rw [this, e]
  have hat : ((s.data[a.length]!).toNat : Int) = 47 := by
    rw [hget _ (by omega)]; simp
  have hbehind : ∀ j, a.length < j → j < s.size → ((s.data[j]!).toNat : Int) ≠ 47 := by
    intro j h1 h2 h3
    rw [hget j h2] at h3
    obtain ⟨t, rfl⟩ : ∃ t, j = a.length + 1 + t := ⟨j - a.length - 1, by omega⟩
    have ht : t < n.length := by omega
    have e2 : (a ++ 47 :: n)[a.length + 1 + t]! = n[t] := by
      rw [getElem!_pos _ _ (by simp; omega), List.getElem_append_right (by omega)]
      simp [show a.length + 1 + t - a.length = t + 1 by omega]
    rw [e2] at h3
    exact hn n[t] (List.getElem_mem ht) (UInt8.toNat_inj.1 (by simpa using Int.ofNat.inj h3))
  rcases Lib.lastIndexByte_spec s 47 with ⟨_, h⟩ | ⟨i, hi, he, hc, h⟩
  · exact absurd hat (h a.length (by omega))
  · rw [he]
    rcases Nat.lt_trichotomy i a.length with hlt | rfl | hgt
    · exact absurd hat (h a.length hlt (by omega))
    · rfl
    · exact absurd hc (hbehind i hgt hi)

theorem of_last {l : List (List UInt8)} (h : l ≠ []) : of l = of l.dropLast ++ 47 :: l.getLast h := by
  conv => lhs; rw [← List.dropLast_concat_getLast h, of_append]
  simp [of]

theorem lastIndex_good (s : ByteArray) (h : goodB s.data.toList = true) : Lib.lastIndexByte s 47 = (parent s.data.toList).length := by
  obtain ⟨e, hn, _⟩ := good_parts h
  have h1 := namesB_len hn
  have hne : parts s.data.toList ≠ [] := by intro hh; rw [hh] at h1; simp at h1
  refine lastIndex_of s _ ((parts s.data.toList).getLast hne) ?_ (namesB_clean hn _ (List.getLast_mem hne))
  conv => lhs; rw [e]
  exact of_last hne

theorem parent_take {p : List UInt8} (h : goodB p = true) : p.take (parent p).length = parent p := by
  obtain ⟨e, hn, _⟩ := good_parts h
  have h1 := namesB_len hn
  have hne : parts p ≠ [] := by intro hh; rw [hh] at h1; simp at h1
  have e2 : p = parent p ++ 47 :: (parts p).getLast hne := e.trans (of_last hne)
  have h3 : (parent p ++ 47 :: (parts p).getLast hne).take (parent p).length = parent p := List.take_left
  rw [← e2] at h3; exact h3

theorem parent_len {p : List UInt8} (h : goodB p = true) : (parent p).length ≤ p.length := by
  rw [← parent_take h, List.length_take]; omega

/-! ### Numbers behind a path -/

theorem nDigits_le : ∀ (k n : Nat), n < 10 ^ (k + 1) → Lib.nDigits n ≤ k + 1
  | 0, n, h => by rw [Lib.nDigits_small (by simpa using h)]; omega
  | k + 1, n, h => by
    by_cases hs : n < 10
    · rw [Lib.nDigits_small hs]; omega
    · rw [Lib.nDigits_big hs]
      have := nDigits_le k (n / 10) (by rw [Nat.pow_succ] at h; omega)
      omega

def dig10 (n : Nat) : List UInt8 := List.replicate (10 - (Lib.decDigits n).length) 48 ++ Lib.decDigits n

/-! ### Names joined -/

end Go.Proofs.YtboejbjobjhajaaGreatDoor.Pl
namespace Go.Proofs.YtboejbjobjhajaaGreatDoor.Pl

end Go.Proofs.YtboejbjobjhajaaGreatDoor.Pl
namespace Go.Proofs.YtboejbjobjhajaaGreatDoor.Pl

end Go.Proofs.YtboejbjobjhajaaGreatDoor.Pl
namespace Go.Proofs.YtboejbjobjhajaaGreatDoor.Pk

def byteAt (z : Int) (s : Nat) : UInt8 := UInt8.ofNat (z % 18446744073709551616 / 2 ^ s % 256).toNat
def be8 (z : Int) : List UInt8 := [byteAt z 56, byteAt z 48, byteAt z 40, byteAt z 32, byteAt z 24, byteAt z 16, byteAt z 8, byteAt z 0]
def txt (l : List UInt8) : List UInt8 := be8 l.length ++ l
def val (l : List UInt8) : Nat := l.foldl (fun v c => v * 256 + c.toNat) 0
end Go.Proofs.YtboejbjobjhajaaGreatDoor.Pk
namespace Go.Proofs.YtboejbjobjhajaaGreatDoor
open Go.RowKit

structure O where
  kind : Int
  path : ByteArray
  data : ByteArray
  ver : Int
  flags : Int

def oc (o : O) : List Value := [.int .i64 o.kind, .string o.path, .string o.data, .int .i64 o.ver, .int .i64 o.flags]
def ov (o : O) : Value := .agg #[.int .i64 o.kind, .string o.path, .string o.data, .int .i64 o.ver, .int .i64 o.flags]

def Ol (w : World) (v : Value) (os : List O) : Prop := ∃ av k c, v = .slice av k c ∧ k = os.length ∧ k ≤ c ∧ (av = none → c = 0) ∧ ∀ (j : Nat) o, os[j]? = some o → ∃ g b, av = some ⟨g, b, none⟩ ∧ ∀ (i : Nat) u, (oc o)[i]? = some u → w.cell? ⟨g, b + (j * 5 + i), none⟩ = some u

theorem Ol.below {w w' : World} {v : Value} {os : List O} (h : Ol w v os) (hb : Below w.heap.size w w') : Ol w' v os := by
  obtain ⟨av, k, c, hv, hk, hc, hn, hs⟩ := h
  refine ⟨av, k, c, hv, hk, hc, hn, fun j o ho => ?_⟩
  obtain ⟨g, b, ha, hcell⟩ := hs j o ho
  exact ⟨g, b, ha, fun i u hu => Below.kept hb (hcell i u hu)⟩

theorem Ol.at {w : World} {v : Value} {os : List O} (h : Ol w v os) (h0 : 0 < os.length) : ∃ g b c, v = .slice (some ⟨g, b, none⟩) os.length c ∧ ∀ (j : Nat) o, os[j]? = some o →
    w.cell? ⟨g, b + j * 5, none⟩ = some (.int .i64 o.kind) ∧ w.cell? ⟨g, b + j * 5 + 1, none⟩ = some (.string o.path) ∧ w.cell? ⟨g, b + j * 5 + 2, none⟩ = some (.string o.data) ∧ w.cell? ⟨g, b + j * 5 + 3, none⟩ = some (.int .i64 o.ver) ∧ w.cell? ⟨g, b + j * 5 + 4, none⟩ = some (.int .i64 o.flags) := by
  obtain ⟨av, k, c, rfl, hk, hc, hn, hs⟩ := h
  obtain ⟨g, b, rfl, _⟩ := hs 0 os[0] (List.getElem?_eq_getElem h0)
  refine ⟨g, b, c, by rw [hk], fun j o ho => ?_⟩
  obtain ⟨g', b', e, hcell⟩ := hs j o ho
  simp only [Option.some.injEq, Addr.mk.injEq, and_true] at e
  obtain ⟨rfl, rfl⟩ := e
  exact ⟨hcell 0 _ rfl, hcell 1 _ rfl, hcell 2 _ rfl, hcell 3 _ rfl, hcell 4 _ rfl⟩

end Go.Proofs.YtboejbjobjhajaaGreatDoor
namespace Go.Proofs.YtboejbjobjhajaaGreatDoor.Kq

def lt (a b : ByteArray) : Bool := Op.bytesLess a.toList b.toList
theorem less_irrefl : ∀ x : List UInt8, Op.bytesLess x x = false
  | [] => rfl
  | a :: x => by simp [Op.bytesLess, less_irrefl x]
theorem less_trans : ∀ {x y z : List UInt8}, Op.bytesLess x y = true → Op.bytesLess y z = true → Op.bytesLess x z = true
  | _, [], _, h, _ => by simp [Op.bytesLess] at h
  | _, _ :: _, [], _, h => by simp [Op.bytesLess] at h
  | [], _ :: _, _ :: _, _, _ => rfl
  | a :: x, b :: y, c :: z, h1, h2 => by
    simp only [Op.bytesLess, Bool.or_eq_true, decide_eq_true_eq, Bool.and_eq_true, beq_iff_eq] at h1 h2 ⊢
    rcases h1 with h1 | ⟨rfl, h1⟩
    · rcases h2 with h2 | ⟨rfl, h2⟩
      · exact Or.inl (UInt8.lt_trans h1 h2)
      · exact Or.inl h1
    · rcases h2 with h2 | ⟨rfl, h2⟩
      · exact Or.inl h2
      · exact Or.inr ⟨rfl, less_trans h1 h2⟩
theorem less_total : ∀ {x y : List UInt8}, Op.bytesLess x y = false → Op.bytesLess y x = false → x = y
  | [], [], _, _ => rfl
  | [], _ :: _, h, _ => by simp [Op.bytesLess] at h
  | _ :: _, [], _, h => by simp [Op.bytesLess] at h
  | a :: x, b :: y, h1, h2 => by
    simp only [Op.bytesLess, Bool.or_eq_false_iff, decide_eq_false_iff_not, Bool.and_eq_false_iff, beq_eq_false_iff_ne] at h1 h2
    have hab : a = b := by
      have h3 := h1.1
      have h4 := h2.1
      exact UInt8.le_antisymm (UInt8.not_lt.1 h4) (UInt8.not_lt.1 h3)
    subst hab
    rw [less_total (h1.2.resolve_left (fun h => h rfl)) (h2.2.resolve_left (fun h => h rfl))]
theorem lt_irrefl (a : ByteArray) : lt a a = false := less_irrefl _
theorem lt_trans {a b c : ByteArray} (h : lt a b = true) (k : lt b c = true) : lt a c = true := less_trans h k
theorem lt_total {a b : ByteArray} (h : lt a b = false) (k : lt b a = false) : a = b := bytes_eq (by rw [less_total h k]; simp)
theorem lt_asymm {a b : ByteArray} (h : lt a b = true) : lt b a = false := by
  cases k : lt b a with
  | false => rfl
  | true => rw [← lt_irrefl a]; exact (lt_trans h k).symm
theorem lt_ne {a b : ByteArray} (h : lt a b = true) : a ≠ b := fun e => by rw [e, lt_irrefl] at h; cases h

structure Kn where
  made : Int
  changed : Int
  ver : Int
  kids : Int
  owner : Int
  len : Int
  cnt : Int
  data : ByteArray
  next : Int
  names : List ByteArray
def zero : Kn := ⟨0, 0, 0, 0, 0, 0, 0, ⟨#[]⟩, 0, []⟩
def more (n : Int) : Int := if 2147483647 ≤ n then n else n + 1
def new (z o : Int) (d : ByteArray) : Kn := ⟨z, z, 0, 0, o, (d.size : Int), 0, d, 0, []⟩
def write (n : Kn) (z : Int) (d : ByteArray) : Kn := { n with data := d, changed := z, ver := more n.ver, len := (d.size : Int) }
def Rises (l : List ByteArray) : Prop := l.Pairwise fun a b => lt a b = true
def has (l : List ByteArray) (s : ByteArray) : Bool := l.any fun x => decide (x = s)
def low (l : List ByteArray) (s : ByteArray) : List ByteArray := l.takeWhile fun x => lt x s
def high (l : List ByteArray) (s : ByteArray) : List ByteArray := l.dropWhile fun x => lt x s
def ins (l : List ByteArray) (s : ByteArray) : List ByteArray := low l s ++ s :: high l s
def del (l : List ByteArray) (s : ByteArray) : List ByteArray := l.filter fun x => decide (x ≠ s)
def add (n : Kn) (s : ByteArray) : Kn := if has n.names s then n else { n with names := ins n.names s, kids := more n.kids, cnt := ((n.names.length + 1 : Nat) : Int), next := more n.next }
def remove (n : Kn) (s : ByteArray) : Kn := if has n.names s then { n with names := del n.names s, kids := more n.kids, cnt := ((n.names.length - 1 : Nat) : Int) } else n

theorem has_iff {l : List ByteArray} {s : ByteArray} : has l s = true ↔ s ∈ l := by unfold has; simp
theorem low_high (l : List ByteArray) (s : ByteArray) : low l s ++ high l s = l := List.takeWhile_append_dropWhile
theorem low_lt {l : List ByteArray} {s x : ByteArray} (h : x ∈ low l s) : lt x s = true := by
  unfold low at h
  induction l with
  | nil => simp at h
  | cons a l ih =>
    rw [List.takeWhile_cons] at h
    split at h
    · rename_i ha
      rcases List.mem_cons.1 h with rfl | h
      · exact ha
      · exact ih h
    · cases h
theorem high_ge {l : List ByteArray} {s x : ByteArray} (hr : Rises l) (h : x ∈ high l s) : lt x s = false := by
  unfold high at h
  induction l with
  | nil => simp at h
  | cons a l ih =>
    obtain ⟨h1, h2⟩ := List.pairwise_cons.1 hr
    rw [List.dropWhile_cons] at h
    split at h
    · exact ih h2 h
    · rename_i ha
      have ha' : lt a s = false := by simpa using ha
      rcases List.mem_cons.1 h with rfl | h
      · exact ha'
      · cases k : lt x s with
        | false => rfl
        | true =>
          have := lt_trans (h1 x h) k
          rw [this] at ha'
          cases ha'
theorem high_first {l : List ByteArray} {s : ByteArray} (hr : Rises l) (h : s ∈ l) : ∃ r, high l s = s :: r ∧ s ∉ low l s ∧ s ∉ r := by
  have h1 : s ∉ low l s := fun h => by have := low_lt h; rw [lt_irrefl] at this; cases this
  have h2 : s ∈ high l s := by
    rw [← low_high l s] at h
    exact (List.mem_append.1 h).resolve_left h1
  cases hh : high l s with
  | nil => rw [hh] at h2; cases h2
  | cons a r =>
    have hrh : Rises (high l s) := by
      have := hr
      rw [← low_high l s] at this
      exact (List.pairwise_append.1 this).2.1
    rw [hh] at hrh h2
    obtain ⟨h3, h4⟩ := List.pairwise_cons.1 hrh
    have ha : lt a s = false := high_ge hr (by rw [hh]; simp)
    have e : a = s := by
      rcases List.mem_cons.1 h2 with e | h5
      · exact e.symm
      · rw [h3 s h5] at ha
        cases ha
    subst e
    exact ⟨r, rfl, h1, fun h5 => by have := h3 a h5; rw [lt_irrefl] at this; cases this⟩
theorem high_not {l : List ByteArray} {s : ByteArray} (hr : Rises l) (h : s ∉ l) : ∀ x ∈ high l s, lt s x = true := fun x hx => by
  cases k : lt s x with
  | true => rfl
  | false =>
    have h1 := high_ge hr hx
    have h2 := lt_total h1 k
    rw [h2] at hx
    exact absurd (by rw [← low_high l s]; exact List.mem_append.2 (Or.inr hx)) h
theorem rises_ins {l : List ByteArray} {s : ByteArray} (hr : Rises l) (h : s ∉ l) : Rises (ins l s) := by
  have h1 := hr
  rw [← low_high l s] at h1
  obtain ⟨h2, h3, h4⟩ := List.pairwise_append.1 h1
  unfold ins
  refine List.pairwise_append.2 ⟨h2, List.pairwise_cons.2 ⟨high_not hr h, h3⟩, fun a ha b hb => ?_⟩
  rcases List.mem_cons.1 hb with rfl | hb
  · exact low_lt ha
  · exact h4 a ha b hb
theorem rises_del {l : List ByteArray} (s : ByteArray) (hr : Rises l) : Rises (del l s) := hr.filter _
theorem mem_ins {l : List ByteArray} {s x : ByteArray} : x ∈ ins l s ↔ x = s ∨ x ∈ l := by
  unfold ins
  conv => rhs; rw [← low_high l s]
  simp only [List.mem_append, List.mem_cons]
  constructor
  · rintro (h | h | h)
    · exact Or.inr (Or.inl h)
    · exact Or.inl h
    · exact Or.inr (Or.inr h)
  · rintro (h | h | h)
    · exact Or.inr (Or.inl h)
    · exact Or.inl h
    · exact Or.inr (Or.inr h)
theorem mem_del {l : List ByteArray} {s x : ByteArray} : x ∈ del l s ↔ x ∈ l ∧ x ≠ s := by unfold del; simp
theorem len_ins (l : List ByteArray) (s : ByteArray) : (ins l s).length = l.length + 1 := by
  unfold ins
  conv => rhs; rw [← low_high l s]
  simp
  omega
theorem del_eq {l r : List ByteArray} {s : ByteArray} (hr : Rises l) (h : s ∈ l) (hh : high l s = s :: r) : del l s = low l s ++ r := by
  obtain ⟨r', h1, h2, h3⟩ := high_first hr h
  rw [hh] at h1
  simp only [List.cons.injEq, true_and] at h1
  subst h1
  unfold del
  conv => lhs; rw [← low_high l s, hh]
  rw [List.filter_append, List.filter_cons_of_neg (by simp), List.filter_eq_self.2, List.filter_eq_self.2]
  · intro x hx
    simp only [decide_eq_true_eq]
    exact fun e => h3 (e ▸ hx)
  · intro x hx
    simp only [decide_eq_true_eq]
    exact fun e => h2 (e ▸ hx)
theorem len_del {l : List ByteArray} {s : ByteArray} (hr : Rises l) (h : s ∈ l) : (del l s).length = l.length - 1 ∧ 0 < l.length := by
  obtain ⟨r, h1, _, _⟩ := high_first hr h
  have h2 := del_eq hr h h1
  have h3 := congrArg List.length (low_high l s)
  rw [h1] at h3
  simp at h3
  rw [h2]
  simp
  omega
theorem rises_add {n : Kn} (s : ByteArray) (h : Rises n.names) : Rises (add n s).names := by
  unfold add
  split
  · exact h
  · rename_i hs
    exact rises_ins h (fun e => hs (has_iff.2 e))
theorem rises_remove {n : Kn} (s : ByteArray) (h : Rises n.names) : Rises (remove n s).names := by
  unfold remove
  split
  · exact rises_del s h
  · exact h
theorem add_yes {n : Kn} {s : ByteArray} (h : has n.names s = false) : add n s = { n with names := ins n.names s, kids := more n.kids, cnt := ((n.names.length + 1 : Nat) : Int), next := more n.next } := by unfold add; rw [h]; rfl
theorem add_no {n : Kn} {s : ByteArray} (h : has n.names s = true) : add n s = n := by unfold add; rw [if_pos h]
theorem remove_yes {n : Kn} {s : ByteArray} (h : has n.names s = true) : remove n s = { n with names := del n.names s, kids := more n.kids, cnt := ((n.names.length - 1 : Nat) : Int) } := by unfold remove; rw [if_pos h]
theorem remove_no {n : Kn} {s : ByteArray} (h : has n.names s = false) : remove n s = n := by unfold remove; rw [h]; rfl
theorem len_add (n : Kn) (s : ByteArray) : (add n s).names.length ≤ n.names.length + 1 := by
  unfold add
  split
  · omega
  · show (ins n.names s).length ≤ _
    rw [len_ins]
    omega
theorem len_remove (n : Kn) (s : ByteArray) : (remove n s).names.length ≤ n.names.length := by
  unfold remove
  split
  · exact List.length_filter_le _ _
  · omega
end Go.Proofs.YtboejbjobjhajaaGreatDoor.Kq
namespace Go.Proofs.YtboejbjobjhajaaGreatDoor.Oq

def headB (o : O) : Bool := decide (o.kind < 1) || decide (7 < o.kind) || !Pl.goodB o.path.data.toList || decide (o.ver < -1) || decide (o.flags < 0) || decide (3 < o.flags)
def hasB (o : O) : Bool := (decide (o.data.size ≠ 0) && decide (o.kind ≠ 1) && decide (o.kind ≠ 3)) || (decide (o.ver ≠ 0) && decide (o.kind ≠ 2) && decide (o.kind ≠ 3) && decide (o.kind ≠ 4)) || (decide (o.flags ≠ 0) && decide (o.kind ≠ 1))
def seqB (o : O) : Bool := decide (o.kind = 1) && decide (2 ≤ o.flags) && (decide ((Pl.parts o.path.data.toList).length = 1) || !Pl.goodB (o.path.data.toList ++ Pl.dig10 0))
def good (o : O) : Int := if headB o then 1 else if 1000 < o.data.size then 2 else if hasB o then 1 else if seqB o then 1 else 0

def firstBad : List O → Int
  | [] => 0
  | o :: os => if good o = 0 then firstBad os else good o
def may (s n : Int) (os : List O) : Int :=
  if s < 1 ∨ n < 1 ∨ os.length = 0 then 1 else if 16 < os.length then 2 else if firstBad os ≠ 0 then firstBad os else if 1 < os.length ∧ os.any (fun o => decide (5 ≤ o.kind)) = true then 1 else 0
def obytes (o : O) : List UInt8 := Pk.be8 o.kind ++ Pk.txt o.path.data.toList ++ Pk.txt o.data.data.toList ++ Pk.be8 o.ver ++ Pk.be8 o.flags
def bytes (s n : Int) (os : List O) : List UInt8 := Pk.be8 s ++ Pk.be8 n ++ Pk.be8 (os.length : Int) ++ os.flatMap obytes
def put (s n : Int) (os : List O) : List UInt8 := if may s n os = 0 then bytes s n os else []
theorem firstBad_app (a b : List O) (h : firstBad a = 0) : firstBad (a ++ b) = firstBad b := by
  induction a with
  | nil => rfl
  | cons o a ih =>
    simp only [firstBad, List.cons_append] at h ⊢
    split at h
    · rename_i h0
      rw [if_pos h0]
      exact ih h
    · rename_i h0
      exact absurd h h0

theorem firstBad_take {os : List O} {k : Nat} {o : O} (h : os[k]? = some o) (h0 : firstBad (os.take k) = 0) : (good o ≠ 0 → firstBad os = good o) ∧ (good o = 0 → firstBad (os.take (k + 1)) = 0) := by
  have hk : k < os.length := (List.getElem?_eq_some_iff.1 h).1
  constructor
  · intro hg
    have e : os = os.take k ++ o :: os.drop (k + 1) := by
      have h1 := List.take_append_drop k os
      rw [List.drop_eq_getElem_cons hk, (List.getElem?_eq_some_iff.1 h).2] at h1
      exact h1.symm
    rw [e, firstBad_app _ _ h0, firstBad, if_neg hg]
  · intro hg
    rw [List.take_add_one, h, firstBad_app _ _ h0]
    simp [firstBad, hg]

theorem good_head {o : O} (h : headB o = true) : good o = 1 := by unfold good; rw [if_pos h]
theorem good_long {o : O} (h : headB o = false) (hd : 1000 < o.data.size) : good o = 2 := by unfold good; rw [h, if_pos hd]; rfl
theorem good_has {o : O} (h : headB o = false) (hd : ¬ 1000 < o.data.size) (h2 : hasB o = true) : good o = 1 := by unfold good; rw [h, if_neg hd, h2]; rfl
theorem good_seq {o : O} (h : headB o = false) (hd : ¬ 1000 < o.data.size) (h2 : hasB o = false) : good o = if seqB o then 1 else 0 := by unfold good; rw [h, if_neg hd, h2]; rfl

theorem head_no {o : O} (h : headB o = false) : 1 ≤ o.kind ∧ o.kind ≤ 7 ∧ Pl.goodB o.path.data.toList = true ∧ -1 ≤ o.ver ∧ 0 ≤ o.flags ∧ o.flags ≤ 3 := by
  unfold headB at h
  simp only [Bool.or_eq_false_iff, decide_eq_false_iff_not, Bool.not_eq_false'] at h
  exact ⟨by omega, by omega, h.1.1.1.2, by omega, by omega, by omega⟩

theorem and2 (f : Int) (h0 : 0 ≤ f) (h3 : f ≤ 3) : bits .and .i64 f 2 = if 2 ≤ f then 2 else 0 := by
  have h : f = 0 ∨ f = 1 ∨ f = 2 ∨ f = 3 := by omega
  rcases h with rfl | rfl | rfl | rfl <;> decide
end Go.Proofs.YtboejbjobjhajaaGreatDoor.Oq
namespace Go.Proofs.YtboejbjobjhajaaGreatDoor

structure X where
  err : Int
  path : ByteArray
  data : ByteArray
  names : List ByteArray
  made : Int
  changed : Int
  ver : Int
  kids : Int
  owner : Int
  len : Int
  cnt : Int

structure Rp where
  num : Int
  zxid : Int
  err : Int
  at_ : Int
  xs : List X

namespace Rq

def Rng (z : Int) : Prop := -9223372036854775808 ≤ z ∧ z ≤ 9223372036854775807

structure Fit (x : X) : Prop where
  err : Rng x.err
  made : Rng x.made
  changed : Rng x.changed
  ver : Rng x.ver
  kids : Rng x.kids
  owner : Rng x.owner
  len : Rng x.len
  cnt : Rng x.cnt
  path : x.path.size ≤ 9223372036854775807
  data : x.data.size ≤ 9223372036854775807
  count : x.names.length ≤ 9223372036854775807
  texts : ∀ t ∈ x.names, t.size ≤ 9223372036854775807

def tbytes (ts : List ByteArray) : List UInt8 := ts.flatMap fun t => Pk.txt t.data.toList
def sbytes (x : X) : List UInt8 := Pk.be8 x.made ++ Pk.be8 x.changed ++ Pk.be8 x.ver ++ Pk.be8 x.kids ++ Pk.be8 x.owner ++ Pk.be8 x.len ++ Pk.be8 x.cnt
def xbytes (x : X) : List UInt8 := Pk.be8 x.err ++ Pk.txt x.path.data.toList ++ Pk.txt x.data.data.toList ++ Pk.be8 (x.names.length : Int) ++ tbytes x.names ++ sbytes x
def bytes (r : Rp) : List UInt8 := Pk.be8 r.num ++ Pk.be8 r.zxid ++ Pk.be8 r.err ++ Pk.be8 r.at_ ++ Pk.be8 (r.xs.length : Int) ++ r.xs.flatMap xbytes

structure Small (x : X) : Prop where
  path : x.path.size ≤ 20000
  data : x.data.size ≤ 20000
  count : x.names.length ≤ 500
  texts : ∀ t ∈ x.names, t.size ≤ 20000

/-! What was read well was written so. -/

end Rq
end Go.Proofs.YtboejbjobjhajaaGreatDoor
namespace Go.Proofs.YtboejbjobjhajaaGreatDoor.Kq

def tx (s : ByteArray) : List UInt8 := Pk.txt s.data.toList
def bytes (n : Kn) : List UInt8 := Pk.be8 n.made ++ (Pk.be8 n.changed ++ (Pk.be8 n.ver ++ (Pk.be8 n.kids ++ (Pk.be8 n.owner ++ (Pk.be8 n.next ++ (tx n.data ++ (Pk.be8 (n.names.length : Int) ++ n.names.flatMap tx)))))))
structure Fit (n : Kn) : Prop where
  made : -9223372036854775808 ≤ n.made ∧ n.made ≤ 9223372036854775807
  changed : -9223372036854775808 ≤ n.changed ∧ n.changed ≤ 9223372036854775807
  ver : 0 ≤ n.ver ∧ n.ver ≤ 2147483647
  kids : 0 ≤ n.kids ∧ n.kids ≤ 2147483647
  owner : -9223372036854775808 ≤ n.owner ∧ n.owner ≤ 9223372036854775807
  next : 0 ≤ n.next ∧ n.next ≤ 2147483647
  data : n.data.size ≤ 1000
  many : n.names.length ≤ 500
  long : ∀ s ∈ n.names, s.size ≤ 40
  len : n.len = (n.data.size : Int)
  cnt : n.cnt = (n.names.length : Int)
  rises : Rises n.names
end Go.Proofs.YtboejbjobjhajaaGreatDoor.Kq
namespace Go.Proofs.YtboejbjobjhajaaGreatDoor
open Go.RowKit

def k10 (n : Kq.Kn) (v : Value) : List Value := [.int .i64 n.made, .int .i64 n.changed, .int .i64 n.ver, .int .i64 n.kids, .int .i64 n.owner, .int .i64 n.len, .int .i64 n.cnt, .string n.data, .int .i64 n.next, v]
def kv (n : Kq.Kn) (v : Value) : Value := .agg #[.int .i64 n.made, .int .i64 n.changed, .int .i64 n.ver, .int .i64 n.kids, .int .i64 n.owner, .int .i64 n.len, .int .i64 n.cnt, .string n.data, .int .i64 n.next, v]
structure Fine10 (n : Kq.Kn) : Prop where
  ver : -9223372036854775808 ≤ n.ver ∧ n.ver ≤ 9223372036854775807
  kids : -9223372036854775808 ≤ n.kids ∧ n.kids ≤ 9223372036854775807
  next : -9223372036854775808 ≤ n.next ∧ n.next ≤ 9223372036854775807
  many : n.names.length ≤ 1000
  long : ∀ s ∈ n.names, s.size ≤ 20000
  data : n.data.size ≤ 20000
def Fn (q : Nat) (v : Value) : Nat → Prop := fun k => k = q ∨ v.ownBlock = some k

theorem more_fit {n : Int} (h : -9223372036854775808 ≤ n ∧ n ≤ 9223372036854775807) : -9223372036854775808 ≤ Kq.more n ∧ Kq.more n ≤ 9223372036854775807 := by
  unfold Kq.more
  split <;> omega
section
variable {W w w' : World} {q : Nat} {n n' : Kq.Kn} {v v' : Value}
end
end Go.Proofs.YtboejbjobjhajaaGreatDoor
namespace Go.Proofs.YtboejbjobjhajaaGreatDoor.Tq
open Kq

abbrev En := ByteArray × Kn
def tb (l : List UInt8) : ByteArray := ⟨l.toArray⟩
structure Tr where
  room : Int
  l : List En
def keys (l : List En) : List ByteArray := l.map (·.1)
def find (l : List En) (p : ByteArray) : Option Kn := (l.find? fun e => decide (e.1 = p)).map (·.2)
def set (l : List En) (p : ByteArray) (n : Kn) : List En := l.map fun e => if e.1 = p then (e.1, n) else e
def low (l : List En) (p : ByteArray) : List En := l.takeWhile fun e => lt e.1 p
def high (l : List En) (p : ByteArray) : List En := l.dropWhile fun e => lt e.1 p
def ins (l : List En) (p : ByteArray) (n : Kn) : List En := low l p ++ (p, n) :: high l p
def del (l : List En) (p : ByteArray) : List En := l.filter fun e => decide (e.1 ≠ p)

def up (p : ByteArray) : Option ByteArray := if 2 ≤ (Pl.parts p.data.toList).length then some (tb (Pl.parent p.data.toList)) else none
def nm (p : ByteArray) : ByteArray := tb (Pl.name p.data.toList)
def num (p : ByteArray) (k : Int) : Option ByteArray := if 0 ≤ k ∧ k ≤ 2147483647 ∧ Pl.goodB (p.data.toList ++ Pl.dig10 k.toNat) = true then some (tb (p.data.toList ++ Pl.dig10 k.toNat)) else none

def fail (e : Int) : X := ⟨e, ⟨#[]⟩, ⟨#[]⟩, [], 0, 0, 0, 0, 0, 0, 0⟩
def gone (p : ByteArray) : X := ⟨0, p, ⟨#[]⟩, [], 0, 0, 0, 0, 0, 0, 0⟩
def told (p d : ByteArray) (ns : List ByteArray) (n : Kn) : X := ⟨0, p, d, ns, n.made, n.changed, n.ver, n.kids, n.owner, n.len, n.cnt⟩

def orphan (l : List En) (p : ByteArray) : List En :=
  match up p with
  | none => l
  | some u => match find l u with
    | none => l
    | some m => set l u (remove m (nm p))
def named (l : List En) (u : Option ByteArray) (p : ByteArray) : List En :=
  match u with
  | none => l
  | some u => match find l u with
    | none => l
    | some m => set l u (add m (nm p))
def makeAt (t : Tr) (u : Option ByteArray) (p : ByteArray) (own z : Int) (d : ByteArray) : X × Tr :=
  match find t.l p with
  | some _ => (fail 5, t)
  | none => if t.room ≤ (t.l.length : Int) then (fail 9, t) else (told p ⟨#[]⟩ [] (new z own d), { t with l := ins (named t.l u p) p (new z own d) })
def create (t : Tr) (o : O) (s z : Int) : X × Tr :=
  let own := if o.flags = 1 ∨ o.flags = 3 then s else 0
  match up o.path with
  | none => makeAt t none o.path own z o.data
  | some u => match find t.l u with
    | none => (fail 4, t)
    | some m =>
      if m.owner ≠ 0 then (fail 8, t)
      else if 2 ≤ o.flags then
        match num o.path m.next with
        | none => (fail 1, t)
        | some p => makeAt t (some u) p own z o.data
      else makeAt t (some u) o.path own z o.data
def atNode (t : Tr) (o : O) (z : Int) (n : Kn) : X × Tr :=
  if (o.kind = 2 ∨ o.kind = 3 ∨ o.kind = 4) ∧ o.ver ≠ -1 ∧ o.ver ≠ n.ver then (fail 6, t)
  else if o.kind = 2 then (if n.names ≠ [] then (fail 7, t) else (gone o.path, { t with l := orphan (del t.l o.path) o.path }))
  else if o.kind = 3 then (told o.path ⟨#[]⟩ [] (write n z o.data), { t with l := set t.l o.path (write n z o.data) })
  else if o.kind = 4 then (gone o.path, t)
  else if o.kind = 5 then (told o.path n.data [] n, t)
  else if o.kind = 6 then (told o.path ⟨#[]⟩ [] n, t)
  else (told o.path ⟨#[]⟩ n.names n, t)
def doo (t : Tr) (o : O) (s z : Int) : X × Tr :=
  if Oq.good o ≠ 0 then (fail (Oq.good o), t)
  else if s < 1 ∨ z < 0 then (fail 1, t)
  else if o.kind = 1 then create t o s z
  else match find t.l o.path with
    | none => (fail 4, t)
    | some n => atNode t o z n
def ofs (t : Tr) (s : Int) : List ByteArray := if 0 < s then (t.l.filter fun e => decide (e.2.owner = s)).map (·.1) else []
def risesB (l : List ByteArray) : Bool := decide (l.Pairwise fun a b => lt a b = true)
def layB (p : ByteArray) (n : Kn) : Bool := Pl.goodB p.data.toList && risesB n.names && decide (n.names.length ≤ 500) && n.names.all fun s => Pl.nameB s.data.toList
def laid (n : Kn) : Kn := { n with len := (n.data.size : Int), cnt := (n.names.length : Int) }
def load (t : Tr) (p : ByteArray) (n : Kn) : Int × Tr :=
  if layB p n = false then (1, t)
  else match find t.l p with
    | some _ => (5, t)
    | none => if t.room ≤ (t.l.length : Int) then (9, t) else (0, { t with l := ins t.l p (laid n) })

/-! What follows. -/
theorem find_cons (e : En) (l : List En) (p : ByteArray) : find (e :: l) p = if e.1 = p then some e.2 else find l p := by
  unfold find
  rw [List.find?_cons]
  by_cases h : e.1 = p
  · simp [h]
  · simp [h]
theorem find_some {l : List En} {p : ByteArray} {n : Kn} (h : find l p = some n) : (p, n) ∈ l := by
  induction l with
  | nil => cases h
  | cons e l ih =>
    rw [find_cons] at h
    split at h
    · rename_i he
      rw [← he, ← Option.some.inj h]
      exact List.mem_cons_self
    · exact List.mem_cons_of_mem _ (ih h)
theorem find_none {l : List En} {p : ByteArray} (h : find l p = none) : p ∉ keys l := by
  induction l with
  | nil => simp [keys]
  | cons e l ih =>
    rw [find_cons] at h
    split at h
    · cases h
    · rename_i he
      intro hm
      unfold keys at hm
      rw [List.map_cons, List.mem_cons] at hm
      rcases hm with hm | hm
      · exact he hm.symm
      · exact ih h hm
theorem find_of {l : List En} {p : ByteArray} {n : Kn} (hr : Rises (keys l)) (h : (p, n) ∈ l) : find l p = some n := by
  induction l with
  | nil => cases h
  | cons e l ih =>
    unfold keys at hr
    rw [List.map_cons] at hr
    obtain ⟨h1, h2⟩ := List.pairwise_cons.1 hr
    rw [find_cons]
    rcases List.mem_cons.1 h with rfl | h
    · rw [if_pos rfl]
    · have h3 := h1 p (List.mem_map.2 ⟨_, h, rfl⟩)
      rw [if_neg (lt_ne h3)]
      exact ih h2 h
theorem keys_set (l : List En) (p : ByteArray) (n : Kn) : keys (set l p n) = keys l := by
  unfold keys set
  rw [List.map_map]
  apply List.map_congr_left
  intro e _
  simp only [Function.comp]
  split <;> rfl
theorem len_set (l : List En) (p : ByteArray) (n : Kn) : (set l p n).length = l.length := by unfold set; simp
theorem find_set (l : List En) (p q : ByteArray) (n : Kn) : find (set l p n) q = if q = p then (find l q).map (fun _ => n) else find l q := by
  induction l with
  | nil => simp [set, find]
  | cons e l ih =>
    have e1 : set (e :: l) p n = (if e.1 = p then (e.1, n) else e) :: set l p n := rfl
    rw [e1, find_cons, find_cons, ih]
    by_cases h : e.1 = p
    · rw [if_pos h]
      simp only []
      by_cases hq : e.1 = q
      · rw [if_pos hq, if_pos hq, if_pos (by rw [← hq, h])]
        rfl
      · rw [if_neg hq, if_neg hq]
    · rw [if_neg h]
      by_cases hq : e.1 = q
      · rw [if_pos hq, if_pos hq, if_neg (by rw [← hq]; exact h)]
      · rw [if_neg hq, if_neg hq]
theorem low_high (l : List En) (p : ByteArray) : low l p ++ high l p = l := List.takeWhile_append_dropWhile
theorem keys_low (l : List En) (p : ByteArray) : keys (low l p) = Kq.low (keys l) p := by
  unfold keys low Kq.low
  rw [List.takeWhile_map]
  rfl
theorem keys_high (l : List En) (p : ByteArray) : keys (high l p) = Kq.high (keys l) p := by
  unfold keys high Kq.high
  rw [List.dropWhile_map]
  rfl
theorem keys_ins (l : List En) (p : ByteArray) (n : Kn) : keys (ins l p n) = Kq.ins (keys l) p := by
  unfold Kq.ins
  rw [← keys_low, ← keys_high]
  unfold ins keys
  simp
theorem len_ins (l : List En) (p : ByteArray) (n : Kn) : (ins l p n).length = l.length + 1 := by
  have h := congrArg List.length (keys_ins l p n)
  rw [Kq.len_ins] at h
  unfold keys at h
  simpa using h
theorem mem_ins {l : List En} {p : ByteArray} {n : Kn} {e : En} : e ∈ ins l p n ↔ e = (p, n) ∨ e ∈ l := by
  unfold ins
  conv => rhs; rw [← low_high l p]
  simp only [List.mem_append, List.mem_cons]
  constructor
  · rintro (h | h | h)
    · exact Or.inr (Or.inl h)
    · exact Or.inl h
    · exact Or.inr (Or.inr h)
  · rintro (h | h | h)
    · exact Or.inr (Or.inl h)
    · exact Or.inl h
    · exact Or.inr (Or.inr h)
theorem rises_ins {l : List En} {p : ByteArray} (n : Kn) (hr : Rises (keys l)) (h : find l p = none) : Rises (keys (ins l p n)) := by
  rw [keys_ins]
  exact Kq.rises_ins hr (find_none h)
theorem rises_set {l : List En} (p : ByteArray) (n : Kn) (hr : Rises (keys l)) : Rises (keys (set l p n)) := by rw [keys_set]; exact hr
theorem rises_del {l : List En} (p : ByteArray) (hr : Rises (keys l)) : Rises (keys (del l p)) := by
  have h : (keys (del l p)).Sublist (keys l) := List.Sublist.map _ List.filter_sublist
  exact List.Pairwise.sublist h hr
theorem find_ins {l : List En} {p q : ByteArray} (n : Kn) (hr : Rises (keys l)) (h : find l p = none) : find (ins l p n) q = if q = p then some n else find l q := by
  have hr2 := rises_ins n hr h
  by_cases hq : q = p
  · rw [if_pos hq, hq]
    exact find_of hr2 (mem_ins.2 (Or.inl rfl))
  · rw [if_neg hq]
    cases he : find l q with
    | some m => exact find_of hr2 (mem_ins.2 (Or.inr (find_some he)))
    | none =>
      cases hf : find (ins l p n) q with
      | none => rfl
      | some m =>
        rcases mem_ins.1 (find_some hf) with e | e
        · exact absurd (congrArg Prod.fst e) hq
        · exact absurd (List.mem_map.2 ⟨_, e, rfl⟩) (find_none he)
theorem mem_del {l : List En} {p : ByteArray} {e : En} : e ∈ del l p ↔ e ∈ l ∧ e.1 ≠ p := by unfold del; simp
theorem find_del {l : List En} {p q : ByteArray} (hr : Rises (keys l)) : find (del l p) q = if q = p then none else find l q := by
  have hr2 := rises_del p hr
  by_cases hq : q = p
  · rw [if_pos hq]
    cases hf : find (del l p) q with
    | none => rfl
    | some m => exact absurd hq (mem_del.1 (find_some hf)).2
  · rw [if_neg hq]
    cases he : find l q with
    | some m => exact find_of hr2 (mem_del.2 ⟨find_some he, hq⟩)
    | none =>
      cases hf : find (del l p) q with
      | none => rfl
      | some m => exact absurd (List.mem_map.2 ⟨_, (mem_del.1 (find_some hf)).1, rfl⟩) (find_none he)
theorem len_del_le (l : List En) (p : ByteArray) : (del l p).length ≤ l.length := List.length_filter_le _ _
end Go.Proofs.YtboejbjobjhajaaGreatDoor.Tq
namespace Go.Proofs.YtboejbjobjhajaaGreatDoor
structure Node11 (n : Kq.Kn) : Prop where
  ver : -9223372036854775808 ≤ n.ver ∧ n.ver ≤ 9223372036854775807
  kids : -9223372036854775808 ≤ n.kids ∧ n.kids ≤ 9223372036854775807
  next : -9223372036854775808 ≤ n.next ∧ n.next ≤ 9223372036854775807
  many : n.names.length ≤ 900
  long : ∀ s ∈ n.names, Pl.nameB s.data.toList = true
  data : n.data.size ≤ 20000
  rises : Kq.Rises n.names
structure Fine11 (t : Tq.Tr) : Prop where
  rise : Kq.Rises (Tq.keys t.l)
  room : 1 ≤ t.room ∧ t.room ≤ 500
  len : (t.l.length : Int) ≤ t.room
  nodes : ∀ e ∈ t.l, Pl.goodB e.1.data.toList = true ∧ Node11 e.2
end Go.Proofs.YtboejbjobjhajaaGreatDoor
namespace Go.Proofs.YtboejbjobjhajaaGreatDoor.Tq
open Kq

theorem tb_data (l : List UInt8) : (tb l).data.toList = l := by unfold tb; simp
theorem good_zero {o : O} (h : Oq.good o = 0) : Oq.headB o = false ∧ o.data.size ≤ 1000 ∧ Oq.hasB o = false ∧ Oq.seqB o = false := by
  cases h1 : Oq.headB o with
  | true => rw [Oq.good_head h1] at h; cases h
  | false =>
    by_cases h2 : 1000 < o.data.size
    · rw [Oq.good_long h1 h2] at h; cases h
    · cases h3 : Oq.hasB o with
      | true => rw [Oq.good_has h1 h2 h3] at h; cases h
      | false =>
        rw [Oq.good_seq h1 h2 h3] at h
        cases h4 : Oq.seqB o with
        | true => rw [h4] at h; cases h
        | false => exact ⟨rfl, by omega, rfl, rfl⟩
theorem good_path {o : O} (h : Oq.good o = 0) : Pl.goodB o.path.data.toList = true := (Oq.head_no (good_zero h).1).2.2.1
theorem nm_ok {p : ByteArray} (h : Pl.goodB p.data.toList = true) : Pl.nameB (nm p).data.toList = true := by
  obtain ⟨_, h2, _⟩ := Pl.good_parts h
  have h3 := Pl.namesB_len h2
  unfold nm Pl.name
  rw [tb_data]
  have hne : Pl.parts p.data.toList ≠ [] := fun e => by rw [e] at h3; simp at h3
  rw [List.getLast?_eq_some_getLast hne]
  rw [Pl.namesB_rest h3.1 h3.2] at h2
  exact List.all_eq_true.1 h2 _ (List.getLast_mem hne)
theorem num_ok {p q : ByteArray} {k : Int} (h : num p k = some q) : Pl.goodB q.data.toList = true := by
  unfold num at h
  split at h
  · rename_i hc
    rw [← Option.some.inj h, tb_data]
    exact hc.2.2
  · cases h

section
variable {n : Kn} {t : Tr} {p : ByteArray}
theorem n11_new {z own : Int} {d : ByteArray} (hd : d.size ≤ 20000) : Node11 (new z own d) := ⟨by simp [new], by simp [new], by simp [new], by simp [new], by simp [new], hd, List.Pairwise.nil⟩
theorem n11_write (h : Node11 n) {z : Int} {d : ByteArray} (hd : d.size ≤ 20000) : Node11 (write n z d) := ⟨more_fit h.ver, h.kids, h.next, h.many, h.long, hd, h.rises⟩
theorem n11_add (h : Node11 n) {s : ByteArray} (hs : Pl.nameB s.data.toList = true) (hm : n.names.length ≤ 899) : Node11 (add n s) := by
  have hr := rises_add s h.rises
  cases hh : has n.names s with
  | true => rw [add_no hh]; exact h
  | false =>
    rw [add_yes hh] at hr ⊢
    exact ⟨h.ver, more_fit h.kids, more_fit h.next, by show (Kq.ins n.names s).length ≤ 900; rw [Kq.len_ins]; omega, fun x hx => by
      rcases Kq.mem_ins.1 hx with rfl | hx
      · exact hs
      · exact h.long x hx, h.data, hr⟩
theorem n11_remove (h : Node11 n) (s : ByteArray) : Node11 (remove n s) := by
  have hr := rises_remove s h.rises
  cases hh : has n.names s with
  | false => rw [remove_no hh]; exact h
  | true =>
    rw [remove_yes hh] at hr ⊢
    exact ⟨h.ver, more_fit h.kids, h.next, Nat.le_trans (List.length_filter_le _ _) h.many, fun x hx => h.long x (Kq.mem_del.1 hx).1, h.data, hr⟩
theorem mem_set {l : List En} {e : En} (h : e ∈ set l p n) : e ∈ l ∨ (e = (p, n) ∧ p ∈ keys l) := by
  unfold set at h
  obtain ⟨x, hx, he⟩ := List.mem_map.1 h
  split at he
  · rename_i hp
    rw [hp] at he
    exact Or.inr ⟨he.symm, List.mem_map.2 ⟨x, hx, hp⟩⟩
  · exact Or.inl (he ▸ hx)
theorem fine_set (h : Fine11 t) (hn : Node11 n) : Fine11 { t with l := set t.l p n } :=
  ⟨rises_set p n h.rise, h.room, by show ((set t.l p n).length : Int) ≤ t.room; rw [len_set]; exact h.len, fun e he => by
    rcases mem_set he with he | ⟨rfl, hp⟩
    · exact h.nodes e he
    · obtain ⟨x, hx, rfl⟩ := List.mem_map.1 hp
      exact ⟨(h.nodes x hx).1, hn⟩⟩
theorem fine_ins (h : Fine11 t) (hp : Pl.goodB p.data.toList = true) (hf : find t.l p = none) (hl : (t.l.length : Int) < t.room) (hn : Node11 n) : Fine11 { t with l := ins t.l p n } :=
  ⟨rises_ins n h.rise hf, h.room, by show ((ins t.l p n).length : Int) ≤ t.room; rw [len_ins]; omega, fun e he => by
    rcases mem_ins.1 he with rfl | he
    · exact ⟨hp, hn⟩
    · exact h.nodes e he⟩
theorem fine_del (h : Fine11 t) : Fine11 { t with l := del t.l p } :=
  ⟨rises_del p h.rise, h.room, by show ((del t.l p).length : Int) ≤ t.room; have := len_del_le t.l p; have := h.len; omega, fun e he => h.nodes e (mem_del.1 he).1⟩
theorem find_node (h : Fine11 t) {q : ByteArray} (hf : find t.l q = some n) : Node11 n := (h.nodes _ (find_some hf)).2
theorem fine_orphan (h : Fine11 t) : Fine11 { t with l := orphan t.l p } := by
  unfold orphan
  split
  · exact h
  · split
    · exact h
    · rename_i hf
      exact fine_set h (n11_remove (find_node h hf) _)
def Few (t : Tr) (m : Nat) : Prop := ∀ e ∈ t.l, e.2.names.length ≤ m
theorem fine_named (h : Fine11 t) (hm : Few t 899) (u : Option ByteArray) (hp : Pl.goodB p.data.toList = true) : Fine11 { t with l := named t.l u p } := by
  unfold named
  split
  · exact h
  · split
    · exact h
    · rename_i hf
      exact fine_set h (n11_add (find_node h hf) (nm_ok hp) (hm _ (find_some hf)))
theorem keys_named (l : List En) (u : Option ByteArray) (p : ByteArray) : keys (named l u p) = keys l := by
  unfold named
  split
  · rfl
  · split
    · rfl
    · exact keys_set _ _ _
theorem find_keys {a b : List En} (h : keys a = keys b) (q : ByteArray) : find a q = none ↔ find b q = none := by
  have key : ∀ {a b : List En}, keys a = keys b → find a q = none → find b q = none := fun {a b} h e => by
    cases he : find b q with
    | none => rfl
    | some m =>
      have h2 : q ∈ keys b := List.mem_map.2 ⟨(q, m), find_some he, rfl⟩
      rw [← h] at h2
      exact absurd h2 (find_none e)
  exact ⟨key h, key h.symm⟩
theorem fine_make (h : Fine11 t) (hm : Few t 899) (u : Option ByteArray) (hp : Pl.goodB p.data.toList = true) {own z : Int} {d : ByteArray} (hd : d.size ≤ 20000) : Fine11 (makeAt t u p own z d).2 := by
  unfold makeAt
  split
  · exact h
  · rename_i hf
    split
    · exact h
    · rename_i hr
      have h1 := fine_named h hm u hp
      have hk := keys_named t.l u p
      have hl : (named t.l u p).length = t.l.length := by have := congrArg List.length hk; unfold keys at this; simpa using this
      exact fine_ins (t := { t with l := named t.l u p }) h1 hp ((find_keys hk p).2 hf) (by show ((named t.l u p).length : Int) < t.room; rw [hl]; omega) (n11_new hd)
end
theorem fine_doo {t : Tr} {o : O} {s z : Int} (h : Fine11 t) (hm : Few t 899) : Fine11 (doo t o s z).2 := by
  unfold doo
  split
  · exact h
  · rename_i hg
    have hg : Oq.good o = 0 := Classical.not_not.1 hg
    have hp := good_path hg
    have hd : o.data.size ≤ 20000 := by have := (good_zero hg).2.1; omega
    split
    · exact h
    · split
      · unfold create
        simp only []
        split
        · exact fine_make h hm _ hp hd
        · split
          · exact h
          · split
            · exact h
            · split
              · split
                · exact h
                · rename_i hn
                  exact fine_make h hm _ (num_ok hn) hd
              · exact fine_make h hm _ hp hd
      · split
        · exact h
        · rename_i n hf
          unfold atNode
          split
          · exact h
          · split
            · split
              · exact h
              · exact fine_orphan (t := { t with l := del t.l o.path }) (fine_del h)
            · split
              · exact fine_set h (n11_write (find_node h hf) hd)
              · split
                · exact h
                · split
                  · exact h
                  · split
                    · exact h
                    · exact h
theorem few_set {t : Tr} {p : ByteArray} {n : Kn} {m : Nat} (h : Few t m) (hn : n.names.length ≤ m) : Few { t with l := set t.l p n } m := fun e he => by
  rcases mem_set he with he | ⟨rfl, _⟩
  · exact h e he
  · exact hn
theorem Few.more {t : Tr} {m k : Nat} (h : Few t m) (hk : m ≤ k) : Few t k := fun e he => Nat.le_trans (h e he) hk
theorem few_ins {t : Tr} {p : ByteArray} {n : Kn} {m : Nat} (h : Few t m) (hn : n.names.length ≤ m) : Few { t with l := ins t.l p n } m := fun e he => by
  rcases mem_ins.1 he with rfl | he
  · exact hn
  · exact h e he
theorem few_make {t : Tr} {u : Option ByteArray} {p d : ByteArray} {own z : Int} {m : Nat} (h : Few t m) : Few (makeAt t u p own z d).2 (m + 1) := by
  have h1 := h.more (Nat.le_succ m)
  unfold makeAt
  split
  · exact h1
  · split
    · exact h1
    · refine few_ins (t := { t with l := named t.l u p }) ?_ (Nat.zero_le _)
      unfold named
      split
      · exact h1
      · split
        · exact h1
        · rename_i mn hf
          refine few_set h1 ?_
          have e1 := len_add mn (nm p)
          have e2 := h _ (find_some hf)
          simp only [] at e2
          omega
theorem few_doo {t : Tr} {o : O} {s z : Int} {m : Nat} (h : Few t m) : Few (doo t o s z).2 (m + 1) := by
  have h1 := h.more (Nat.le_succ m)
  unfold doo
  split
  · exact h1
  · split
    · exact h1
    · split
      · unfold create
        simp only []
        split
        · exact few_make h
        · split
          · exact h1
          · split
            · exact h1
            · split
              · split
                · exact h1
                · exact few_make h
              · exact few_make h
      · split
        · exact h1
        · rename_i n hf
          unfold atNode
          split
          · exact h1
          · split
            · split
              · exact h1
              · have h2 : Few { t with l := del t.l o.path } (m + 1) := fun e he => h1 e (mem_del.1 he).1
                show Few { t with l := orphan (del t.l o.path) o.path } (m + 1)
                unfold orphan
                split
                · exact h2
                · split
                  · exact h2
                  · rename_i mn hf2
                    refine few_set (t := { t with l := del t.l o.path }) h2 ?_
                    have e1 := len_remove mn (nm o.path)
                    have e2 := h2 _ (find_some hf2)
                    simp only [] at e2
                    omega
            · split
              · exact few_set h1 (h1 _ (find_some hf))
              · split
                · exact h1
                · split
                  · exact h1
                  · split
                    · exact h1
                    · exact h1
end Go.Proofs.YtboejbjobjhajaaGreatDoor.Tq
namespace Go.Proofs.YtboejbjobjhajaaGreatDoor.Tq
open Kq

def mk (p : ByteArray) (f : Int) : O := ⟨1, p, ⟨#[]⟩, 0, f⟩
def st (p d : ByteArray) (v : Int) : O := ⟨3, p, d, v, 0⟩
def ex (p : ByteArray) : O := ⟨6, p, ⟨#[]⟩, 0, 0⟩
section
variable {p d : ByteArray} {t : Tr} {o : O} {s z v : Int} {n m : Kn}
end
end Go.Proofs.YtboejbjobjhajaaGreatDoor.Tq
namespace Go.Proofs.YtboejbjobjhajaaGreatDoor.Pl

def fx : Nat → Nat → List UInt8
  | 0, _ => []
  | k + 1, n => fx k (n / 10) ++ [UInt8.ofNat (48 + n % 10)]

theorem fx_zero : ∀ k, fx k 0 = List.replicate k 48
  | 0 => rfl
  | k + 1 => by rw [fx, Nat.zero_div, fx_zero k, List.replicate_succ']; rfl

theorem pad_fx : ∀ (k n : Nat), 1 ≤ k → n < 10 ^ k → List.replicate (k - (Lib.decDigits n).length) 48 ++ Lib.decDigits n = fx k n
  | 0, _, h, _ => by omega
  | k + 1, n, _, h => by
    by_cases hs : n < 10
    · rw [Lib.decDigits_one hs, fx, Nat.div_eq_of_lt hs, fx_zero, Nat.mod_eq_of_lt hs]; rfl
    · have hk : 1 ≤ k := by
        rcases Nat.eq_zero_or_pos k with rfl | h'
        · simp at h; omega
        · exact h'
      have e : Lib.decDigits n = Lib.decDigits (n / 10) ++ [UInt8.ofNat (48 + n % 10)] := by rw [Lib.decDigits, dif_neg hs]
      have ih := pad_fx k (n / 10) hk (by rw [Nat.pow_succ] at h; omega)
      rw [e, fx, ← ih, List.length_append, List.length_singleton, Nat.add_sub_add_right, List.append_assoc]

theorem dig10_fx {n : Nat} (h : n ≤ 2147483647) : dig10 n = fx 10 n := pad_fx 10 n (by decide) (by omega)

theorem fx_digits : ∀ (k n : Nat), ∀ c ∈ fx k n, 48 ≤ c.toNat ∧ c.toNat ≤ 57
  | 0, _ => by simp [fx]
  | k + 1, n => by
    intro c hc
    rw [fx] at hc
    rcases List.mem_append.1 hc with h | h
    · exact fx_digits k _ c h
    · rw [List.mem_singleton.1 h, UInt8.toNat_ofNat']
      have := Nat.mod_lt n (show 0 < 10 by decide)
      omega

theorem num_form {p : List UInt8} (hp : goodB p = true) (d : List UInt8) : ∃ l n, parts p = l ++ [n] ∧ p = of (l ++ [n]) ∧ p ++ d = of (l ++ [n ++ d]) ∧ namesB (l ++ [n]) = true ∧ name p = n ∧ parent p = of l := by
  obtain ⟨e, hn, _⟩ := good_parts hp
  have h1 := namesB_len hn
  have hne : parts p ≠ [] := by intro hh; rw [hh] at h1; simp at h1
  have ep := (List.dropLast_concat_getLast hne).symm
  refine ⟨(parts p).dropLast, (parts p).getLast hne, ep, by rw [← ep]; exact e, ?_, by rw [← ep]; exact hn, ?_, rfl⟩
  · conv => lhs; rw [e, ep]
    rw [of_append, of_append]
    simp [of]
  · rw [name, List.getLast?_eq_some_getLast hne]; rfl

theorem num_parts {p d : List UInt8} (hp : goodB p = true) (hg : goodB (p ++ d) = true) (hcl : ∀ c ∈ d, c ≠ 47) : (parts (p ++ d)).length = (parts p).length ∧ parent (p ++ d) = parent p := by
  obtain ⟨l, n, e1, e2, e3, hn, enm, epar⟩ := num_form hp d
  have hc := namesB_clean hn
  have hq : parts (p ++ d) = l ++ [n ++ d] := by
    have h1 : parts (p ++ d) = spl ((p ++ d).drop 1) := by unfold parts; rw [hg]; rfl
    rw [h1, e3]
    cases hh : l ++ [n ++ d] with
    | nil => simp at hh
    | cons a t =>
      rw [of, List.drop_succ_cons, List.drop_zero]
      refine spl_of a t ?_
      rw [← hh]
      intro x hx
      rcases List.mem_append.1 hx with h | h
      · exact hc x (List.mem_append_left _ h)
      · rw [List.mem_singleton.1 h]
        intro c hcc
        rcases List.mem_append.1 hcc with h' | h'
        · exact hc n (by simp) c h'
        · exact hcl c h'
  refine ⟨by rw [hq, e1]; simp, ?_⟩
  rw [parent, hq, List.dropLast_concat, epar]
end Go.Proofs.YtboejbjobjhajaaGreatDoor.Pl
namespace Go.Proofs.YtboejbjobjhajaaGreatDoor.Tq
theorem num_digits {a : Int} (ha : 0 ≤ a ∧ a ≤ 2147483647) : ∀ c ∈ Pl.dig10 a.toNat, 48 ≤ c.toNat ∧ c.toNat ≤ 57 := by
  rw [Pl.dig10_fx (by omega)]; exact Pl.fx_digits 10 _
theorem num_clean {a : Int} (ha : 0 ≤ a ∧ a ≤ 2147483647) : ∀ c ∈ Pl.dig10 a.toNat, c ≠ 47 := by
  intro c hc e
  have := num_digits ha c hc
  rw [e] at this
  simp at this
end Go.Proofs.YtboejbjobjhajaaGreatDoor.Tq
namespace Go.Proofs.YtboejbjobjhajaaGreatDoor.Pl
end Go.Proofs.YtboejbjobjhajaaGreatDoor.Pl
namespace Go.Proofs.YtboejbjobjhajaaGreatDoor.Tq
open Kq

def kid (B : ByteArray) (j : Nat) : ByteArray := tb (B.data.toList ++ Pl.dig10 j)
theorem tb_inj {a b : List UInt8} (h : tb a = tb b) : a = b := by
  have := congrArg (fun x : ByteArray => x.data.toList) h
  simpa [tb] using this
theorem dig_clean {j : Nat} (hj : j ≤ 2147483647) : ∀ c ∈ Pl.dig10 j, c ≠ 47 := by
  have h2 := num_clean (a := (j : Int)) (by omega)
  rwa [Int.toNat_natCast] at h2

section
variable {P B : ByteArray}
end
section
variable {P B : ByteArray} {t : Tr} {n : Nat} {js : List Nat} {K z0 : Int}
end
end Go.Proofs.YtboejbjobjhajaaGreatDoor.Tq
namespace Go.Proofs.YtboejbjobjhajaaGreatDoor.Pl
theorem of_inj {a b : List (List UInt8)} (ca : ∀ x ∈ a, ∀ c ∈ x, c ≠ 47) (cb : ∀ x ∈ b, ∀ c ∈ x, c ≠ 47) (e : of a = of b) : a = b := by
  cases a with
  | nil =>
    cases b with
    | nil => rfl
    | cons y b => have : of (y :: b) = 47 :: (y ++ of b) := rfl
                  rw [this] at e
                  cases e
  | cons x a =>
    cases b with
    | nil => have : of (x :: a) = 47 :: (x ++ of a) := rfl
             rw [this] at e
             cases e
    | cons y b =>
      have e1 := spl_of x a ca
      have e2 := spl_of y b cb
      have h1 : of (x :: a) = 47 :: (x ++ of a) := rfl
      have h2 : of (y :: b) = 47 :: (y ++ of b) := rfl
      rw [h1, h2] at e
      rw [(List.cons.inj e).2] at e1
      rw [← e1, e2]
theorem sub_parts {q s p : List UInt8} (hq : goodB q = true) (hs : nameB s = true) (hp : goodB p = true) (e : q ++ 47 :: s = p) : parts p = parts q ++ [s] := by
  obtain ⟨q1, q2, _⟩ := good_parts hq
  obtain ⟨p1, p2, _⟩ := good_parts hp
  refine of_inj (namesB_clean p2) (fun x hx c hc => ?_) ?_
  · rcases List.mem_append.1 hx with h | h
    · exact namesB_clean q2 x h c hc
    · simp at h
      rw [h] at hc
      exact nameB_clean hs c hc
  · rw [← p1, of_append, ← q1, ← e]
    simp [of]
theorem join_last {p : List UInt8} (hp : goodB p = true) : p = parent p ++ 47 :: name p := by
  obtain ⟨p1, p2, _⟩ := good_parts hp
  have h1 := namesB_len p2
  have hne : parts p ≠ [] := fun e => by rw [e] at h1; simp at h1
  have h2 := of_last hne
  rw [← p1] at h2
  unfold parent name
  rw [List.getLast?_eq_some_getLast hne]
  exact h2
end Go.Proofs.YtboejbjobjhajaaGreatDoor.Pl
namespace Go.Proofs.YtboejbjobjhajaaGreatDoor.Tq
open Kq

def sub (p s : ByteArray) : ByteArray := tb (p.data.toList ++ 47 :: s.data.toList)
theorem tb_back (p : ByteArray) : tb p.data.toList = p := by cases p; simp [tb]
theorem sub_up {q s p : ByteArray} (hq : Pl.goodB q.data.toList = true) (hs : Pl.nameB s.data.toList = true) (hp : Pl.goodB p.data.toList = true) (e : sub q s = p) : up p = some q ∧ nm p = s := by
  have e2 : q.data.toList ++ 47 :: s.data.toList = p.data.toList := by rw [← e]; unfold sub; rw [tb_data]
  have h := Pl.sub_parts hq hs hp e2
  have hl := Pl.namesB_len (Pl.good_parts hq).2.1
  refine ⟨?_, ?_⟩
  · unfold up Pl.parent
    rw [h, if_pos (by rw [List.length_append, List.length_singleton]; omega), List.dropLast_concat, ← (Pl.good_parts hq).1, tb_back]
  · unfold nm Pl.name
    rw [h]
    simp [tb_back]
theorem up_sub {p u : ByteArray} (hp : Pl.goodB p.data.toList = true) (h : up p = some u) : sub u (nm p) = p ∧ Pl.goodB u.data.toList = true := by
  unfold up at h
  split at h
  · rename_i h2
    have h3 := (Option.some.inj h).symm
    rw [h3]
    unfold sub nm
    rw [tb_data, tb_data, ← Pl.join_last hp, tb_back]
    exact ⟨rfl, (Pl.good_parent hp h2).1⟩
  · cases h
theorem up_num {p q : ByteArray} {k : Int} (hp : Pl.goodB p.data.toList = true) (h : num p k = some q) : up q = up p := by
  have hg := num_ok h
  unfold num at h
  split at h
  · rename_i hc
    have e := (Option.some.inj h).symm
    rw [e, tb_data] at hg
    have hcl : ∀ c ∈ Pl.dig10 k.toNat, c ≠ 47 := dig_clean (by omega)
    have h1 := Pl.num_parts hp hg hcl
    rw [e]
    unfold up
    rw [tb_data, h1.1, h1.2]
  · cases h
structure Snd (t : Tr) : Prop where
  par : ∀ p n u, find t.l p = some n → up p = some u → ∃ m, find t.l u = some m ∧ m.owner = 0 ∧ nm p ∈ m.names
  kid : ∀ p n s, find t.l p = some n → s ∈ n.names → ∃ m, find t.l (sub p s) = some m
  eph : ∀ p n, find t.l p = some n → n.owner ≠ 0 → n.names = []
  cnt : ∀ p n, find t.l p = some n → n.cnt = (n.names.length : Int)
theorem snd_new (r : Int) : Snd ⟨r, []⟩ := ⟨fun p n u h => (by cases h), fun p n s h => (by cases h), fun p n h => (by cases h), fun p n h => (by cases h)⟩
theorem good_of {t : Tr} (hf : Fine11 t) {p : ByteArray} {n : Kn} (h : find t.l p = some n) : Pl.goodB p.data.toList = true ∧ Node11 n := hf.nodes _ (find_some h)
theorem snd_set {t : Tr} (h : Snd t) {p : ByteArray} {n n' : Kn} (hp : find t.l p = some n) (ho : n'.owner = n.owner) (hn : n'.names = n.names) (hc : n'.cnt = n.cnt) : Snd { t with l := set t.l p n' } := by
  have hfi : ∀ q, find (set t.l p n') q = if q = p then some n' else find t.l q := fun q => by
    rw [find_set]
    by_cases hq : q = p
    · rw [if_pos hq, if_pos hq, hq, hp]
      rfl
    · rw [if_neg hq, if_neg hq]
  have old : ∀ q x, find (set t.l p n') q = some x → ∃ y, find t.l q = some y ∧ x.owner = y.owner ∧ x.names = y.names ∧ x.cnt = y.cnt := fun q x hx => by
    rw [hfi] at hx
    split at hx
    · rename_i e
      rw [← Option.some.inj hx, e]
      exact ⟨n, hp, ho, hn, hc⟩
    · exact ⟨x, hx, rfl, rfl, rfl⟩
  have fwd : ∀ q y, find t.l q = some y → ∃ x, find (set t.l p n') q = some x ∧ x.owner = y.owner ∧ x.names = y.names := fun q y hy => by
    rw [hfi]
    by_cases e : q = p
    · rw [if_pos e]
      rw [e, hp] at hy
      rw [← Option.some.inj hy]
      exact ⟨n', rfl, ho, hn⟩
    · rw [if_neg e]
      exact ⟨y, hy, rfl, rfl⟩
  refine ⟨fun q x u hx hu => ?_, fun q x s hx hs => ?_, fun q x hx hne => ?_, fun q x hx => ?_⟩
  · obtain ⟨y, hy, _⟩ := old q x hx
    obtain ⟨m, h1, h2, h3⟩ := h.par q y u hy hu
    obtain ⟨x2, g1, g2, g3⟩ := fwd u m h1
    exact ⟨x2, g1, by rw [g2]; exact h2, by rw [g3]; exact h3⟩
  · obtain ⟨y, hy, _, e, _⟩ := old q x hx
    rw [e] at hs
    obtain ⟨m, h1⟩ := h.kid q y s hy hs
    obtain ⟨x2, g1, _⟩ := fwd _ m h1
    exact ⟨x2, g1⟩
  · obtain ⟨y, hy, e1, e2, _⟩ := old q x hx
    rw [e2]
    exact h.eph q y hy (by rw [← e1]; exact hne)
  · obtain ⟨y, hy, _, e2, e3⟩ := old q x hx
    rw [e2, e3]
    exact h.cnt q y hy
theorem snd_make {t : Tr} (hf : Fine11 t) (h : Snd t) {p d : ByteArray} {own z : Int} (hp : Pl.goodB p.data.toList = true) (hu : ∀ u, up p = some u → ∃ m, find t.l u = some m ∧ m.owner = 0) : Snd (makeAt t (up p) p own z d).2 := by
  unfold makeAt
  split
  · exact h
  · rename_i hnone
    split
    · exact h
    · show Snd { t with l := ins (named t.l (up p) p) p (new z own d) }
      have hks := keys_named t.l (up p) p
      have hrs : Rises (keys (named t.l (up p) p)) := by rw [hks]; exact hf.rise
      have hn3 : find (named t.l (up p) p) p = none := (find_keys hks _).2 hnone
      cases hup : up p with
      | none =>
        rw [hup] at hrs hn3
        have hfi : ∀ q, find (ins (named t.l none p) p (new z own d)) q = if q = p then some (new z own d) else find t.l q := fun q => find_ins _ hrs hn3
        have ne : ∀ q x, find t.l q = some x → q ≠ p := fun q x hx e => by rw [e, hnone] at hx; cases hx
        refine ⟨fun q x u hx hqu => ?_, fun q x s hx hs => ?_, fun q x hx hne => ?_, fun q x hx => ?_⟩
        · have hx : find (ins (named t.l none p) p (new z own d)) q = some x := hx
          show ∃ m, find (ins (named t.l none p) p (new z own d)) u = some m ∧ _
          rw [hfi] at hx
          split at hx
          · rename_i e
            rw [e, hup] at hqu
            cases hqu
          · obtain ⟨m, h1, h2, h3⟩ := h.par q x u hx hqu
            rw [hfi, if_neg (ne u m h1)]
            exact ⟨m, h1, h2, h3⟩
        · have hx : find (ins (named t.l none p) p (new z own d)) q = some x := hx
          show ∃ m, find (ins (named t.l none p) p (new z own d)) _ = some m
          rw [hfi] at hx
          split at hx
          · rw [← Option.some.inj hx] at hs
            cases hs
          · obtain ⟨m, h1⟩ := h.kid q x s hx hs
            rw [hfi, if_neg (ne _ m h1)]
            exact ⟨m, h1⟩
        · have hx : find (ins (named t.l none p) p (new z own d)) q = some x := hx
          rw [hfi] at hx
          split at hx
          · rw [← Option.some.inj hx]; rfl
          · exact h.eph q x hx hne
        · have hx : find (ins (named t.l none p) p (new z own d)) q = some x := hx
          rw [hfi] at hx
          split at hx
          · rw [← Option.some.inj hx]; rfl
          · exact h.cnt q x hx
      | some u =>
        rw [hup] at hrs hn3
        obtain ⟨m, hm, hmo⟩ := hu u hup
        have hnd : named t.l (some u) p = set t.l u (add m (nm p)) := by
          unfold named
          simp only []
          rw [hm]
        rw [hnd] at hrs hn3 ⊢
        have hfi : ∀ q, find (ins (set t.l u (add m (nm p))) p (new z own d)) q = if q = p then some (new z own d) else if q = u then some (add m (nm p)) else find t.l q := fun q => by
          rw [find_ins _ hrs hn3, find_set]
          by_cases hq1 : q = p
          · rw [if_pos hq1, if_pos hq1]
          · rw [if_neg hq1, if_neg hq1]
            by_cases hq2 : q = u
            · rw [if_pos hq2, if_pos hq2, hq2, hm]
              rfl
            · rw [if_neg hq2, if_neg hq2]
        have ne : ∀ q x, find t.l q = some x → q ≠ p := fun q x hx e => by rw [e, hnone] at hx; cases hx
        have hsub := (up_sub hp hup).1
        have hao : (add m (nm p)).owner = 0 := by unfold add; split <;> exact hmo
        have hmem : ∀ s, s ∈ (add m (nm p)).names ↔ s = nm p ∨ s ∈ m.names := fun s => by
          cases hh : has m.names (nm p) with
          | true =>
            rw [add_no hh]
            constructor
            · exact Or.inr
            · rintro (rfl | h1)
              · exact has_iff.1 hh
              · exact h1
          | false => rw [add_yes hh]; exact Kq.mem_ins
        have hcnt : (add m (nm p)).cnt = ((add m (nm p)).names.length : Int) := by
          cases hh : has m.names (nm p) with
          | true => rw [add_no hh]; exact h.cnt u m hm
          | false =>
            rw [add_yes hh]
            show ((m.names.length + 1 : Nat) : Int) = ((Kq.ins m.names (nm p)).length : Int)
            rw [Kq.len_ins]
        have fwd : ∀ q y, find t.l q = some y → ∃ x, find (ins (set t.l u (add m (nm p))) p (new z own d)) q = some x ∧ (y.owner = 0 → x.owner = 0) ∧ ∀ s ∈ y.names, s ∈ x.names := fun q y hy => by
          rw [hfi, if_neg (ne q y hy)]
          by_cases e : q = u
          · rw [if_pos e]
            rw [e, hm] at hy
            rw [← Option.some.inj hy]
            exact ⟨_, rfl, fun _ => hao, fun s hs => (hmem s).2 (Or.inr hs)⟩
          · rw [if_neg e]
            exact ⟨y, hy, fun h => h, fun s hs => hs⟩
        refine ⟨fun q x v hx hqv => ?_, fun q x s hx hs => ?_, fun q x hx hne => ?_, fun q x hx => ?_⟩
        · have hx : find (ins (set t.l u (add m (nm p))) p (new z own d)) q = some x := hx
          show ∃ m2, find (ins (set t.l u (add m (nm p))) p (new z own d)) v = some m2 ∧ _
          rw [hfi] at hx
          split at hx
          · rename_i e
            rw [e, hup] at hqv
            have hv := Option.some.inj hqv
            rw [← hv, hfi, if_neg (ne u m hm), if_pos rfl]
            exact ⟨_, rfl, hao, (hmem _).2 (Or.inl (by rw [e]))⟩
          · split at hx
            · rename_i e
              obtain ⟨m2, h1, h2, h3⟩ := h.par u m v hm (by rw [← e]; exact hqv)
              obtain ⟨x2, g1, g2, g3⟩ := fwd v m2 h1
              exact ⟨x2, g1, g2 h2, g3 _ (by rw [e]; exact h3)⟩
            · obtain ⟨m2, h1, h2, h3⟩ := h.par q x v hx hqv
              obtain ⟨x2, g1, g2, g3⟩ := fwd v m2 h1
              exact ⟨x2, g1, g2 h2, g3 _ h3⟩
        · have hx : find (ins (set t.l u (add m (nm p))) p (new z own d)) q = some x := hx
          show ∃ m2, find (ins (set t.l u (add m (nm p))) p (new z own d)) (sub q s) = some m2
          rw [hfi] at hx
          split at hx
          · rw [← Option.some.inj hx] at hs
            cases hs
          · split at hx
            · rename_i e
              rw [← Option.some.inj hx] at hs
              rcases (hmem s).1 hs with e2 | hs
              · rw [e, e2, hsub, hfi, if_pos rfl]
                exact ⟨_, rfl⟩
              · obtain ⟨m2, h1⟩ := h.kid u m s hm hs
                obtain ⟨x2, g1, _⟩ := fwd _ m2 h1
                rw [e]
                exact ⟨x2, g1⟩
            · obtain ⟨m2, h1⟩ := h.kid q x s hx hs
              obtain ⟨x2, g1, _⟩ := fwd _ m2 h1
              exact ⟨x2, g1⟩
        · have hx : find (ins (set t.l u (add m (nm p))) p (new z own d)) q = some x := hx
          rw [hfi] at hx
          split at hx
          · rw [← Option.some.inj hx]; rfl
          · split at hx
            · rw [← Option.some.inj hx] at hne
              exact absurd hao hne
            · exact h.eph q x hx hne
        · have hx : find (ins (set t.l u (add m (nm p))) p (new z own d)) q = some x := hx
          rw [hfi] at hx
          split at hx
          · rw [← Option.some.inj hx]; rfl
          · split at hx
            · rw [← Option.some.inj hx]; exact hcnt
            · exact h.cnt q x hx
theorem snd_gone {t : Tr} (hf : Fine11 t) (h : Snd t) {p : ByteArray} {n : Kn} (hp : find t.l p = some n) (hn : n.names = []) : Snd { t with l := orphan (del t.l p) p } := by
  have hgp := (good_of hf hp).1
  have hfd : ∀ q, find (del t.l p) q = if q = p then none else find t.l q := fun q => find_del hf.rise
  -- no other node is under it
  have notup : ∀ q x, find t.l q = some x → up q ≠ some p := fun q x hx e => by
    obtain ⟨m, h1, _, h3⟩ := h.par q x p hx e
    rw [hp] at h1
    rw [← Option.some.inj h1, hn] at h3
    cases h3
  cases hup : up p with
  | none =>
    have e0 : orphan (del t.l p) p = del t.l p := by unfold orphan; rw [hup]
    rw [e0]
    refine ⟨fun q x u hx hqu => ?_, fun q x s hx hs => ?_, fun q x hx hne => ?_, fun q x hx => ?_⟩
    · have hx : find (del t.l p) q = some x := hx
      show ∃ m, find (del t.l p) u = some m ∧ _
      rw [hfd] at hx
      split at hx
      · cases hx
      · obtain ⟨m, h1, h2, h3⟩ := h.par q x u hx hqu
        have hup2 : u ≠ p := fun e => notup q x hx (by rw [← e]; exact hqu)
        rw [hfd, if_neg hup2]
        exact ⟨m, h1, h2, h3⟩
    · have hx : find (del t.l p) q = some x := hx
      show ∃ m, find (del t.l p) (sub q s) = some m
      rw [hfd] at hx
      split at hx
      · cases hx
      · obtain ⟨m, h1⟩ := h.kid q x s hx hs
        have hne : sub q s ≠ p := fun e => by
          have h2 := (sub_up (good_of hf hx).1 ((good_of hf hx).2.long s hs) hgp e).1
          rw [hup] at h2
          cases h2
        rw [hfd, if_neg hne]
        exact ⟨m, h1⟩
    · have hx : find (del t.l p) q = some x := hx
      rw [hfd] at hx
      split at hx
      · cases hx
      · exact h.eph q x hx hne
    · have hx : find (del t.l p) q = some x := hx
      rw [hfd] at hx
      split at hx
      · cases hx
      · exact h.cnt q x hx
  | some u =>
    obtain ⟨m, hm, hmo, hmn⟩ := h.par p n u hp hup
    have hpu : u ≠ p := fun e => notup p n hp (by rw [hup, e])
    have hdu : find (del t.l p) u = some m := by rw [hfd, if_neg hpu]; exact hm
    have e0 : orphan (del t.l p) p = set (del t.l p) u (remove m (nm p)) := by
      unfold orphan
      rw [hup]
      simp only []
      rw [hdu]
    rw [e0]
    have hmr := (good_of hf hm).2.rises
    have hrem := remove_yes (has_iff.2 hmn)
    have hsub := (up_sub hgp hup).1
    have hfi : ∀ q, find (set (del t.l p) u (remove m (nm p))) q = if q = u then some (remove m (nm p)) else if q = p then none else find t.l q := fun q => by
      rw [find_set]
      by_cases hq2 : q = u
      · rw [if_pos hq2, if_pos hq2, hq2, hdu]
        rfl
      · rw [if_neg hq2, if_neg hq2, hfd]
    have hmem : ∀ s, s ∈ (remove m (nm p)).names ↔ s ∈ m.names ∧ s ≠ nm p := fun s => by rw [hrem]; exact Kq.mem_del
    have hro : (remove m (nm p)).owner = 0 := by rw [hrem]; exact hmo
    have fwd : ∀ q y, find t.l q = some y → q ≠ p → ∃ x, find (set (del t.l p) u (remove m (nm p))) q = some x ∧ (y.owner = 0 → x.owner = 0) ∧ ∀ s ∈ y.names, (q = u → s ≠ nm p) → s ∈ x.names := fun q y hy hq => by
      rw [hfi]
      by_cases e : q = u
      · rw [if_pos e]
        rw [e, hm] at hy
        rw [← Option.some.inj hy]
        exact ⟨_, rfl, fun _ => hro, fun s hs hne => (hmem s).2 ⟨hs, hne e⟩⟩
      · rw [if_neg e, if_neg hq]
        exact ⟨y, hy, fun h => h, fun s hs _ => hs⟩
    have old : ∀ q x, find (set (del t.l p) u (remove m (nm p))) q = some x → q ≠ p ∧ ∃ y, find t.l q = some y ∧ x.owner = y.owner ∧ (∀ s ∈ x.names, s ∈ y.names ∧ (q = u → s ≠ nm p)) := fun q x hx => by
      rw [hfi] at hx
      split at hx
      · rename_i e
        rw [← Option.some.inj hx, e]
        exact ⟨hpu, m, hm, by rw [hro, hmo], fun s hs => ⟨((hmem s).1 hs).1, fun _ => ((hmem s).1 hs).2⟩⟩
      · rename_i e
        split at hx
        · cases hx
        · rename_i e2
          exact ⟨e2, x, hx, rfl, fun s hs => ⟨hs, fun e3 => absurd e3 e⟩⟩
    refine ⟨fun q x v hx hqv => ?_, fun q x s hx hs => ?_, fun q x hx hne => ?_, fun q x hx => ?_⟩
    · obtain ⟨hq, y, hy, _, _⟩ := old q x hx
      obtain ⟨m2, h1, h2, h3⟩ := h.par q y v hy hqv
      have hv : v ≠ p := fun e => notup q y hy (by rw [← e]; exact hqv)
      obtain ⟨x2, g1, g2, g3⟩ := fwd v m2 h1 hv
      refine ⟨x2, g1, g2 h2, g3 _ h3 (fun e en => ?_)⟩
      have hq2 := (up_sub (good_of hf hy).1 hqv).1
      rw [e, en, hsub] at hq2
      exact hq hq2.symm
    · obtain ⟨hq, y, hy, _, hys⟩ := old q x hx
      obtain ⟨hs1, hs2⟩ := hys s hs
      obtain ⟨m2, h1⟩ := h.kid q y s hy hs1
      have hne : sub q s ≠ p := fun e => by
        obtain ⟨h2, h3⟩ := sub_up (good_of hf hy).1 ((good_of hf hy).2.long s hs1) hgp e
        rw [hup] at h2
        exact hs2 (Option.some.inj h2).symm h3.symm
      obtain ⟨x2, g1, _⟩ := fwd _ m2 h1 hne
      exact ⟨x2, g1⟩
    · obtain ⟨hq, y, hy, e1, hys⟩ := old q x hx
      have h2 := h.eph q y hy (by rw [← e1]; exact hne)
      cases hxn : x.names with
      | nil => rfl
      | cons s l =>
        have h3 := (hys s (by rw [hxn]; exact List.mem_cons_self)).1
        rw [h2] at h3
        cases h3
    · have hx : find (set (del t.l p) u (remove m (nm p))) q = some x := hx
      rw [hfi] at hx
      split at hx
      · rw [← Option.some.inj hx, hrem]
        show ((m.names.length - 1 : Nat) : Int) = ((Kq.del m.names (nm p)).length : Int)
        rw [(len_del hmr hmn).1]
      · split at hx
        · cases hx
        · exact h.cnt q x hx
theorem snd_doo {t : Tr} {o : O} {s z : Int} (hf : Fine11 t) (h : Snd t) : Snd (doo t o s z).2 := by
  unfold doo
  split
  · exact h
  · rename_i hg
    have hg : Oq.good o = 0 := Classical.not_not.1 hg
    have hp := good_path hg
    split
    · exact h
    · split
      · unfold create
        simp only []
        split
        · rename_i hup
          have := snd_make (own := if o.flags = 1 ∨ o.flags = 3 then s else 0) (z := z) (d := o.data) hf h hp (fun u hu => by rw [hup] at hu; cases hu)
          rw [hup] at this
          exact this
        · rename_i u hup
          split
          · exact h
          · rename_i m hm
            split
            · exact h
            · rename_i hmo
              have hmo : m.owner = 0 := Classical.not_not.1 hmo
              split
              · split
                · exact h
                · rename_i q hq
                  have hqu : up q = some u := by rw [up_num hp hq]; exact hup
                  have := snd_make (own := if o.flags = 1 ∨ o.flags = 3 then s else 0) (z := z) (d := o.data) hf h (num_ok hq) (fun v hv => by rw [hqu] at hv; rw [← Option.some.inj hv]; exact ⟨m, hm, hmo⟩)
                  rw [hqu] at this
                  exact this
              · have := snd_make (own := if o.flags = 1 ∨ o.flags = 3 then s else 0) (z := z) (d := o.data) hf h hp (fun v hv => by rw [hup] at hv; rw [← Option.some.inj hv]; exact ⟨m, hm, hmo⟩)
                rw [hup] at this
                exact this
      · split
        · exact h
        · rename_i n hfn
          unfold atNode
          split
          · exact h
          · split
            · split
              · exact h
              · rename_i hnn
                exact snd_gone hf h hfn (Classical.not_not.1 hnn)
            · split
              · exact snd_set h hfn rfl rfl rfl
              · split
                · exact h
                · split
                  · exact h
                  · split
                    · exact h
                    · exact h
end Go.Proofs.YtboejbjobjhajaaGreatDoor.Tq
namespace Go.Proofs.YtboejbjobjhajaaGreatDoor.Tq
open Kq

theorem remove_owner (n : Kn) (s : ByteArray) : (remove n s).owner = n.owner := by unfold remove; split <;> rfl
def mine (l : List En) (ss : List Int) : Nat := (l.filter fun e => decide (e.2.owner ∈ ss)).length
end Go.Proofs.YtboejbjobjhajaaGreatDoor.Tq
namespace Go.Proofs.YtboejbjobjhajaaGreatDoor
open Go.RowKit

def xc (x : X) (nv : Value) : List Value := [.int .i64 x.err, .string x.path, .string x.data, nv, .int .i64 x.made, .int .i64 x.changed, .int .i64 x.ver, .int .i64 x.kids, .int .i64 x.owner, .int .i64 x.len, .int .i64 x.cnt]

def Sq (w : World) (u : Value) (ss : List ByteArray) : Prop := ∃ av k c, u = .slice av k c ∧ k = ss.length ∧ k ≤ c ∧ (av = none → c = 0) ∧ ∀ (j : Nat) s, ss[j]? = some s → ∃ g o, av = some ⟨g, o, none⟩ ∧ w.cell? ⟨g, o + j, none⟩ = some (.string s)

theorem Sq.below {w w' : World} {v : Value} {ss : List ByteArray} (h : Sq w v ss) (hb : Below w.heap.size w w') : Sq w' v ss := by
  obtain ⟨av, k, c, hv, hk, hc, hn, hs⟩ := h
  refine ⟨av, k, c, hv, hk, hc, hn, fun j s hs2 => ?_⟩
  obtain ⟨g, o, ha, hcell⟩ := hs j s hs2
  exact ⟨g, o, ha, Below.kept hb hcell⟩

theorem Sq.nil (w : World) : Sq w (.slice none 0 0) [] := ⟨_, _, _, rfl, rfl, Nat.le_refl _, fun _ => rfl, fun j s hs => by simp at hs⟩

def Rl (w : World) (v : Value) (xs : List X) : Prop := ∃ av k c, v = .slice av k c ∧ k = xs.length ∧ k ≤ c ∧ (av = none → c = 0) ∧ ∀ (j : Nat) x, xs[j]? = some x → ∃ g b nv, av = some ⟨g, b, none⟩ ∧ Sq w nv x.names ∧ ∀ (i : Nat) u, (xc x nv)[i]? = some u → w.cell? ⟨g, b + (j * 11 + i), none⟩ = some u

end Go.Proofs.YtboejbjobjhajaaGreatDoor
