/- A node, and its changes: plain reckoning, no program. -/
import Derived.Test.YtjimemnkmpapgaaGreatDoorBase
namespace Go.Proofs.YtjimemnkmpapgaaGreatDoor.Kq

/-- Texts by their bytes. -/
def lt (a b : ByteArray) : Bool := Op.bytesLess a.toList b.toList
theorem less_irrefl : ∀ x : List UInt8, Op.bytesLess x x = false
  | [] => rfl
  | a :: x => by simp [Op.bytesLess, less_irrefl x]
theorem less_trans : ∀ {x y z : List UInt8}, Op.bytesLess x y = true → Op.bytesLess y z = true → Op.bytesLess x z = true
  | _, [], _, h, _ => by simp [Op.bytesLess] at h
  | _, _ :: _, [], _, h => by simp [Op.bytesLess] at h
  | [], _ :: _, _ :: _, _, _ => rfl
  | a :: x, b :: y, c :: z, h1, h2 => by
    simp only [Op.bytesLess, Bool.or_eq_true, decide_eq_true_eq, Bool.and_eq_true, beq_iff_eq] at h1 h2 ⊢
    rcases h1 with h1 | ⟨rfl, h1⟩
    · rcases h2 with h2 | ⟨rfl, h2⟩
      · exact Or.inl (UInt8.lt_trans h1 h2)
      · exact Or.inl h1
    · rcases h2 with h2 | ⟨rfl, h2⟩
      · exact Or.inl h2
      · exact Or.inr ⟨rfl, less_trans h1 h2⟩
theorem less_total : ∀ {x y : List UInt8}, Op.bytesLess x y = false → Op.bytesLess y x = false → x = y
  | [], [], _, _ => rfl
  | [], _ :: _, h, _ => by simp [Op.bytesLess] at h
  | _ :: _, [], _, h => by simp [Op.bytesLess] at h
  | a :: x, b :: y, h1, h2 => by
    simp only [Op.bytesLess, Bool.or_eq_false_iff, decide_eq_false_iff_not, Bool.and_eq_false_iff, beq_eq_false_iff_ne] at h1 h2
    have hab : a = b := by
      have h3 := h1.1
      have h4 := h2.1
      exact UInt8.le_antisymm (UInt8.not_lt.1 h4) (UInt8.not_lt.1 h3)
    subst hab
    rw [less_total (h1.2.resolve_left (fun h => h rfl)) (h2.2.resolve_left (fun h => h rfl))]
theorem lt_irrefl (a : ByteArray) : lt a a = false := less_irrefl _
theorem lt_trans {a b c : ByteArray} (h : lt a b = true) (k : lt b c = true) : lt a c = true := less_trans h k
theorem lt_total {a b : ByteArray} (h : lt a b = false) (k : lt b a = false) : a = b := bytes_eq (by rw [less_total h k]; simp)
theorem lt_asymm {a b : ByteArray} (h : lt a b = true) : lt b a = false := by
  cases k : lt b a with
  | false => rfl
  | true => rw [← lt_irrefl a]; exact (lt_trans h k).symm
theorem lt_ne {a b : ByteArray} (h : lt a b = true) : a ≠ b := fun e => by rw [e, lt_irrefl] at h; cases h

/-- A node. -/
structure Kn where
  made : Int
  changed : Int
  ver : Int
  kids : Int
  owner : Int
  len : Int
  cnt : Int
  data : ByteArray
  next : Int
  names : List ByteArray
def zero : Kn := ⟨0, 0, 0, 0, 0, 0, 0, ⟨#[]⟩, 0, []⟩
/-- One more, at most the greatest. -/
def more (n : Int) : Int := if 2147483647 ≤ n then n else n + 1
def new (z o : Int) (d : ByteArray) : Kn := ⟨z, z, 0, 0, o, (d.size : Int), 0, d, 0, []⟩
def write (n : Kn) (z : Int) (d : ByteArray) : Kn := { n with data := d, changed := z, ver := more n.ver, len := (d.size : Int) }
/-- Each is below those behind it. -/
def Rises (l : List ByteArray) : Prop := l.Pairwise fun a b => lt a b = true
def has (l : List ByteArray) (s : ByteArray) : Bool := l.any fun x => decide (x = s)
def low (l : List ByteArray) (s : ByteArray) : List ByteArray := l.takeWhile fun x => lt x s
def high (l : List ByteArray) (s : ByteArray) : List ByteArray := l.dropWhile fun x => lt x s
def ins (l : List ByteArray) (s : ByteArray) : List ByteArray := low l s ++ s :: high l s
def del (l : List ByteArray) (s : ByteArray) : List ByteArray := l.filter fun x => decide (x ≠ s)
def add (n : Kn) (s : ByteArray) : Kn := if has n.names s then n else { n with names := ins n.names s, kids := more n.kids, cnt := ((n.names.length + 1 : Nat) : Int), next := more n.next }
def remove (n : Kn) (s : ByteArray) : Kn := if has n.names s then { n with names := del n.names s, kids := more n.kids, cnt := ((n.names.length - 1 : Nat) : Int) } else n

theorem has_iff {l : List ByteArray} {s : ByteArray} : has l s = true ↔ s ∈ l := by unfold has; simp
theorem low_high (l : List ByteArray) (s : ByteArray) : low l s ++ high l s = l := List.takeWhile_append_dropWhile
theorem low_lt {l : List ByteArray} {s x : ByteArray} (h : x ∈ low l s) : lt x s = true := by
  unfold low at h
  induction l with
  | nil => simp at h
  | cons a l ih =>
    rw [List.takeWhile_cons] at h
    split at h
    · rename_i ha
      rcases List.mem_cons.1 h with rfl | h
      · exact ha
      · exact ih h
    · cases h
theorem high_ge {l : List ByteArray} {s x : ByteArray} (hr : Rises l) (h : x ∈ high l s) : lt x s = false := by
  unfold high at h
  induction l with
  | nil => simp at h
  | cons a l ih =>
    obtain ⟨h1, h2⟩ := List.pairwise_cons.1 hr
    rw [List.dropWhile_cons] at h
    split at h
    · exact ih h2 h
    · rename_i ha
      have ha' : lt a s = false := by simpa using ha
      rcases List.mem_cons.1 h with rfl | h
      · exact ha'
      · cases k : lt x s with
        | false => rfl
        | true =>
          have := lt_trans (h1 x h) k
          rw [this] at ha'
          cases ha'
/-- A name that is there is the first that is not below itself. -/
theorem high_first {l : List ByteArray} {s : ByteArray} (hr : Rises l) (h : s ∈ l) : ∃ r, high l s = s :: r ∧ s ∉ low l s ∧ s ∉ r := by
  have h1 : s ∉ low l s := fun h => by have := low_lt h; rw [lt_irrefl] at this; cases this
  have h2 : s ∈ high l s := by
    rw [← low_high l s] at h
    exact (List.mem_append.1 h).resolve_left h1
  cases hh : high l s with
  | nil => rw [hh] at h2; cases h2
  | cons a r =>
    have hrh : Rises (high l s) := by
      have := hr
      rw [← low_high l s] at this
      exact (List.pairwise_append.1 this).2.1
    rw [hh] at hrh h2
    obtain ⟨h3, h4⟩ := List.pairwise_cons.1 hrh
    have ha : lt a s = false := high_ge hr (by rw [hh]; simp)
    have e : a = s := by
      rcases List.mem_cons.1 h2 with e | h5
      · exact e.symm
      · rw [h3 s h5] at ha
        cases ha
    subst e
    exact ⟨r, rfl, h1, fun h5 => by have := h3 a h5; rw [lt_irrefl] at this; cases this⟩
theorem high_not {l : List ByteArray} {s : ByteArray} (hr : Rises l) (h : s ∉ l) : ∀ x ∈ high l s, lt s x = true := fun x hx => by
  cases k : lt s x with
  | true => rfl
  | false =>
    have h1 := high_ge hr hx
    have h2 := lt_total h1 k
    rw [h2] at hx
    exact absurd (by rw [← low_high l s]; exact List.mem_append.2 (Or.inr hx)) h
theorem rises_ins {l : List ByteArray} {s : ByteArray} (hr : Rises l) (h : s ∉ l) : Rises (ins l s) := by
  have h1 := hr
  rw [← low_high l s] at h1
  obtain ⟨h2, h3, h4⟩ := List.pairwise_append.1 h1
  unfold ins
  refine List.pairwise_append.2 ⟨h2, List.pairwise_cons.2 ⟨high_not hr h, h3⟩, fun a ha b hb => ?_⟩
  rcases List.mem_cons.1 hb with rfl | hb
  · exact low_lt ha
  · exact h4 a ha b hb
theorem rises_del {l : List ByteArray} (s : ByteArray) (hr : Rises l) : Rises (del l s) := hr.filter _
theorem mem_ins {l : List ByteArray} {s x : ByteArray} : x ∈ ins l s ↔ x = s ∨ x ∈ l := by
  unfold ins
  conv => rhs; rw [← low_high l s]
  simp only [List.mem_append, List.mem_cons]
  constructor
  · rintro (h | h | h)
    · exact Or.inr (Or.inl h)
    · exact Or.inl h
    · exact Or.inr (Or.inr h)
  · rintro (h | h | h)
    · exact Or.inr (Or.inl h)
    · exact Or.inl h
    · exact Or.inr (Or.inr h)
theorem mem_del {l : List ByteArray} {s x : ByteArray} : x ∈ del l s ↔ x ∈ l ∧ x ≠ s := by unfold del; simp
theorem len_ins (l : List ByteArray) (s : ByteArray) : (ins l s).length = l.length + 1 := by
  unfold ins
  conv => rhs; rw [← low_high l s]
  simp
  omega
/-- What is left where one goes: what is below it, and what is above. -/
theorem del_eq {l r : List ByteArray} {s : ByteArray} (hr : Rises l) (h : s ∈ l) (hh : high l s = s :: r) : del l s = low l s ++ r := by
  obtain ⟨r', h1, h2, h3⟩ := high_first hr h
  rw [hh] at h1
  simp only [List.cons.injEq, true_and] at h1
  subst h1
  unfold del
  conv => lhs; rw [← low_high l s, hh]
  rw [List.filter_append, List.filter_cons_of_neg (by simp), List.filter_eq_self.2, List.filter_eq_self.2]
  · intro x hx
    simp only [decide_eq_true_eq]
    exact fun e => h3 (e ▸ hx)
  · intro x hx
    simp only [decide_eq_true_eq]
    exact fun e => h2 (e ▸ hx)
theorem len_del {l : List ByteArray} {s : ByteArray} (hr : Rises l) (h : s ∈ l) : (del l s).length = l.length - 1 ∧ 0 < l.length := by
  obtain ⟨r, h1, _, _⟩ := high_first hr h
  have h2 := del_eq hr h h1
  have h3 := congrArg List.length (low_high l s)
  rw [h1] at h3
  simp at h3
  rw [h2]
  simp
  omega
theorem rises_add {n : Kn} (s : ByteArray) (h : Rises n.names) : Rises (add n s).names := by
  unfold add
  split
  · exact h
  · rename_i hs
    exact rises_ins h (fun e => hs (has_iff.2 e))
theorem rises_remove {n : Kn} (s : ByteArray) (h : Rises n.names) : Rises (remove n s).names := by
  unfold remove
  split
  · exact rises_del s h
  · exact h
theorem add_yes {n : Kn} {s : ByteArray} (h : has n.names s = false) : add n s = { n with names := ins n.names s, kids := more n.kids, cnt := ((n.names.length + 1 : Nat) : Int), next := more n.next } := by unfold add; rw [h]; rfl
theorem add_no {n : Kn} {s : ByteArray} (h : has n.names s = true) : add n s = n := by unfold add; rw [if_pos h]
theorem remove_yes {n : Kn} {s : ByteArray} (h : has n.names s = true) : remove n s = { n with names := del n.names s, kids := more n.kids, cnt := ((n.names.length - 1 : Nat) : Int) } := by unfold remove; rw [if_pos h]
theorem remove_no {n : Kn} {s : ByteArray} (h : has n.names s = false) : remove n s = n := by unfold remove; rw [h]; rfl
theorem len_add (n : Kn) (s : ByteArray) : (add n s).names.length ≤ n.names.length + 1 := by
  unfold add
  split
  · omega
  · show (ins n.names s).length ≤ _
    rw [len_ins]
    omega
theorem len_remove (n : Kn) (s : ByteArray) : (remove n s).names.length ≤ n.names.length := by
  unfold remove
  split
  · exact List.length_filter_le _ _
  · omega
/-- Two rising lists of the same texts are one. -/
theorem rises_eq : ∀ {a b : List ByteArray}, Rises a → Rises b → (∀ x, x ∈ a ↔ x ∈ b) → a = b
  | [], [], _, _, _ => rfl
  | [], y :: b, _, _, h => by have := (h y).2 (by simp); cases this
  | x :: a, [], _, _, h => by have := (h x).1 (by simp); cases this
  | x :: a, y :: b, ha, hb, h => by
    have hna : x ∉ a := fun hx => lt_ne ((List.pairwise_cons.1 ha).1 x hx) rfl
    have hnb : y ∉ b := fun hx => lt_ne ((List.pairwise_cons.1 hb).1 y hx) rfl
    have hxy : x = y := by
      apply Classical.byContradiction
      intro hne
      have h1 : lt y x = true := by
        rcases List.mem_cons.1 ((h x).1 (by simp)) with e | hm
        · exact absurd e hne
        · exact (List.pairwise_cons.1 hb).1 x hm
      have h2 : lt x y = true := by
        rcases List.mem_cons.1 ((h y).2 (by simp)) with e | hm
        · exact absurd e.symm hne
        · exact (List.pairwise_cons.1 ha).1 y hm
      rw [lt_asymm h1] at h2
      cases h2
    subst hxy
    rw [rises_eq (List.pairwise_cons.1 ha).2 (List.pairwise_cons.1 hb).2 (fun z => ?_)]
    constructor
    · intro hz
      rcases List.mem_cons.1 ((h z).1 (List.mem_cons_of_mem _ hz)) with rfl | hm
      · exact absurd hz hna
      · exact hm
    · intro hz
      rcases List.mem_cons.1 ((h z).2 (List.mem_cons_of_mem _ hz)) with rfl | hm
      · exact absurd hz hnb
      · exact hm
end Go.Proofs.YtjimemnkmpapgaaGreatDoor.Kq
