/- A disk of files, and its power: plain reckoning, no program. -/
import Derived.Test.YtmbpkbdaakchiaaBase
namespace Go.Proofs.Ytmbpkbdaakchiaa.Dq

/-- A file: its name, its bytes, how many of them are safe. -/
structure Fl where
  name : ByteArray
  b : List UInt8
  safe : Nat

/-- A disk; its files by their names. -/
structure St where
  room : Nat
  fs : List Fl
  off : Bool
  lives : Nat

/-- Texts are compared by their bytes. -/
def less (a b : ByteArray) : Bool := Op.bytesLess a.toList b.toList

/-- May a name be? -/
def may (s : ByteArray) : Bool := decide (1 ≤ s.size) && decide (s.size ≤ 20) && s.data.toList.all fun c => decide (33 ≤ c.toNat) && decide (c.toNat ≤ 126)

def get (s : ByteArray) (fs : List Fl) : Option Fl := fs.find? fun f => decide (f.name = s)
def upd (s : ByteArray) (g : Fl → Fl) (fs : List Fl) : List Fl := fs.map fun f => if f.name = s then g f else f
def del (s : ByteArray) (fs : List Fl) : List Fl := fs.filter fun f => decide (¬ f.name = s)
def lay (f : Fl) : List Fl → List Fl
  | [] => [f]
  | g :: fs => if less g.name f.name then g :: lay f fs else f :: g :: fs
def size (fs : List Fl) : Nat := (fs.map fun f => f.b.length).sum

/-- What a call of a file is told first: 10 no power, 1 no name, 4 no file. -/
def err (st : St) (s : ByteArray) : Int := if st.off then 10 else if may s = false then 1 else if (get s st.fs).isNone then 4 else 0

def append (st : St) (s : ByteArray) (b : List UInt8) : Int × St :=
  if err st s = 10 ∨ err st s = 1 then (err st s, st)
  else if st.room < size st.fs + b.length then (9, st)
  else if err st s = 4 then (0, { st with fs := lay ⟨s, b, 0⟩ st.fs })
  else (0, { st with fs := upd s (fun f => { f with b := f.b ++ b }) st.fs })
def sync (st : St) (s : ByteArray) : Int × St :=
  if err st s = 0 then (0, { st with fs := upd s (fun f => { f with safe := f.b.length }) st.fs }) else (err st s, st)
def read (st : St) (s : ByteArray) : List UInt8 × Int :=
  if err st s = 0 then (((get s st.fs).map (·.b)).getD [], 0) else ([], err st s)
def cut (st : St) (s : ByteArray) (n : Int) : Int × St :=
  if err st s = 0 then
    (if n < 0 ∨ ((((get s st.fs).map (·.b)).getD []).length : Int) < n then (1, st) else (0, { st with fs := upd s (fun f => { f with b := f.b.take n.toNat, safe := min f.safe n.toNat }) st.fs }))
  else (err st s, st)
def rename (st : St) (s t : ByteArray) : Int × St :=
  if st.off then (10, st) else if may s = false ∨ may t = false then (1, st) else
  match get s st.fs with
  | none => (4, st)
  | some f => if s = t then (0, st) else (0, { st with fs := lay { f with name := t } (del t (del s st.fs)) })
def drop (st : St) (s : ByteArray) : Int × St :=
  if err st s = 0 then (0, { st with fs := del s st.fs }) else (err st s, st)
def kept (f : Fl) (keep : Int) : Nat := f.safe + min keep.toNat (f.b.length - f.safe)
def crash (st : St) (keep : Int) : St := { st with off := true, fs := st.fs.map fun f => { f with b := f.b.take (kept f keep), safe := kept f keep } }
def on (st : St) : St := { st with off := false, lives := st.lives + 1 }
def names (st : St) : List ByteArray := if st.off then [] else st.fs.map (·.name)
def sizeOf (st : St) : Nat := if st.off then 0 else size st.fs

/-! The order of texts. -/
theorem bless_irrefl : ∀ x : List UInt8, Op.bytesLess x x = false
  | [] => rfl
  | a :: x => by simp [Op.bytesLess, bless_irrefl x]
theorem bless_trans : ∀ {x y z : List UInt8}, Op.bytesLess x y = true → Op.bytesLess y z = true → Op.bytesLess x z = true
  | _, [], _, h, _ => by simp [Op.bytesLess] at h
  | _, _ :: _, [], _, h => by simp [Op.bytesLess] at h
  | [], _ :: _, _ :: _, _, _ => rfl
  | a :: x, b :: y, c :: z, h1, h2 => by
    simp only [Op.bytesLess, Bool.or_eq_true, decide_eq_true_eq, Bool.and_eq_true, beq_iff_eq] at h1 h2 ⊢
    rcases h1 with h1 | ⟨rfl, h1⟩
    · rcases h2 with h2 | ⟨rfl, h2⟩
      · exact Or.inl (UInt8.lt_trans h1 h2)
      · exact Or.inl h1
    · rcases h2 with h2 | ⟨rfl, h2⟩
      · exact Or.inl h2
      · exact Or.inr ⟨rfl, bless_trans h1 h2⟩
theorem bless_total : ∀ {x y : List UInt8}, Op.bytesLess x y = false → x ≠ y → Op.bytesLess y x = true
  | [], [], _, h => absurd rfl h
  | [], _ :: _, h, _ => by simp [Op.bytesLess] at h
  | _ :: _, [], _, _ => rfl
  | a :: x, b :: y, h, hne => by
    simp only [Op.bytesLess, Bool.or_eq_false_iff, decide_eq_false_iff_not, Bool.and_eq_false_iff] at h
    simp only [Op.bytesLess, Bool.or_eq_true, decide_eq_true_eq, Bool.and_eq_true, beq_iff_eq]
    by_cases hab : a = b
    · subst hab
      refine Or.inr ⟨rfl, bless_total ?_ (fun e => hne (by rw [e]))⟩
      rcases h.2 with h2 | h2
      · simp at h2
      · exact h2
    · refine Or.inl ?_
      have h1 := h.1
      rcases UInt8.lt_or_lt_of_ne hab with h3 | h3
      · exact absurd h3 h1
      · exact h3
theorem less_eq (a b : ByteArray) : less a b = Op.bytesLess a.data.toList b.data.toList := by
  unfold less
  rw [ByteArray.toList_eq, ByteArray.toList_eq]
theorem less_irrefl (a : ByteArray) : less a a = false := bless_irrefl _
theorem less_trans {a b c : ByteArray} (h : less a b = true) (k : less b c = true) : less a c = true := bless_trans h k
theorem less_total {a b : ByteArray} (h : less a b = false) (hne : a ≠ b) : less b a = true :=
  bless_total h (fun e => hne (bytes_eq (by rw [e]; simp)))

/-- The names rise: each is there once. -/
def Rises (fs : List Fl) : Prop := fs.Pairwise fun f g => less f.name g.name = true

theorem Rises.tail {f : Fl} {fs : List Fl} (h : Rises (f :: fs)) : Rises fs := (List.pairwise_cons.1 h).2
theorem Rises.head {f : Fl} {fs : List Fl} (h : Rises (f :: fs)) : ∀ g ∈ fs, less f.name g.name = true := (List.pairwise_cons.1 h).1
theorem Rises.notin {f : Fl} {fs : List Fl} (h : Rises (f :: fs)) : ∀ g ∈ fs, g.name ≠ f.name := fun g hg e => by
  have := h.head g hg
  rw [e, less_irrefl] at this
  cases this

theorem get_some {s : ByteArray} {fs : List Fl} {f : Fl} (h : get s fs = some f) : f ∈ fs ∧ f.name = s := by
  unfold get at h
  exact ⟨List.mem_of_find?_eq_some h, by simpa using List.find?_some h⟩
theorem get_none {s : ByteArray} {fs : List Fl} (h : get s fs = none) : ∀ f ∈ fs, f.name ≠ s := fun f hf => by
  unfold get at h
  have := List.find?_eq_none.1 h f hf
  simpa using this

theorem mem_lay {f g : Fl} : ∀ {fs : List Fl}, g ∈ lay f fs ↔ g = f ∨ g ∈ fs
  | [] => by simp [lay]
  | a :: fs => by
    unfold lay
    split
    · rw [List.mem_cons, mem_lay, List.mem_cons]
      constructor
      · rintro (h | h | h)
        · exact Or.inr (Or.inl h)
        · exact Or.inl h
        · exact Or.inr (Or.inr h)
      · rintro (h | h | h)
        · exact Or.inr (Or.inl h)
        · exact Or.inl h
        · exact Or.inr (Or.inr h)
    · simp

theorem rises_lay {f : Fl} : ∀ {fs : List Fl}, Rises fs → (∀ g ∈ fs, g.name ≠ f.name) → Rises (lay f fs)
  | [], _, _ => List.pairwise_singleton _ _
  | a :: fs, h, hn => by
    unfold lay
    split
    · rename_i hl
      refine List.pairwise_cons.2 ⟨fun g hg => ?_, rises_lay h.tail (fun g hg => hn g (by simp [hg]))⟩
      rcases mem_lay.1 hg with rfl | hg
      · exact hl
      · exact h.head g hg
    · rename_i hl
      have h1 : less f.name a.name = true := less_total (by simpa using hl) (hn a (by simp))
      refine List.pairwise_cons.2 ⟨fun g hg => ?_, h⟩
      rcases List.mem_cons.1 hg with rfl | hg
      · exact h1
      · exact less_trans h1 (h.head g hg)

theorem rises_upd {s : ByteArray} {g : Fl → Fl} {fs : List Fl} (hg : ∀ f, (g f).name = f.name) (h : Rises fs) : Rises (upd s g fs) := by
  unfold upd Rises
  rw [List.pairwise_map]
  refine h.imp ?_
  intro a b hab
  have e : ∀ f : Fl, (if f.name = s then g f else f).name = f.name := fun f => by split <;> simp [hg]
  rw [e, e]
  exact hab
theorem rises_del {s : ByteArray} {fs : List Fl} (h : Rises fs) : Rises (del s fs) := List.Pairwise.filter _ h
theorem mem_del {s : ByteArray} {fs : List Fl} {f : Fl} : f ∈ del s fs ↔ f ∈ fs ∧ f.name ≠ s := by simp [del]

theorem size_cons (f : Fl) (fs : List Fl) : size (f :: fs) = f.b.length + size fs := by simp [size]
theorem size_lay (f : Fl) : ∀ fs : List Fl, size (lay f fs) = f.b.length + size fs
  | [] => by simp [size, lay]
  | a :: fs => by
    unfold lay
    split
    · rw [size_cons, size_lay f fs, size_cons]
      omega
    · rw [size_cons]
theorem size_del_le (s : ByteArray) (fs : List Fl) : size (del s fs) ≤ size fs := by
  induction fs with
  | nil => simp [del, size]
  | cons a fs ih =>
    unfold del at ih ⊢
    rw [List.filter_cons]
    split
    · rw [size_cons, size_cons]; omega
    · rw [size_cons]; omega
theorem size_del {s : ByteArray} {fs : List Fl} {f : Fl} (h : get s fs = some f) : size (del s fs) + f.b.length ≤ size fs := by
  induction fs with
  | nil => simp [get] at h
  | cons a fs ih =>
    unfold get at h
    rw [List.find?_cons] at h
    unfold del
    rw [List.filter_cons]
    by_cases ha : a.name = s
    · simp only [ha, decide_true, Option.some.injEq] at h
      subst h
      have := size_del_le s fs
      unfold del at this
      simp only [ha, not_true_eq_false, decide_false, Bool.false_eq_true, if_false]
      rw [size_cons]
      omega
    · simp only [ha, decide_false] at h
      have := ih h
      unfold del at this
      simp only [ha, not_false_eq_true, decide_true, if_true]
      rw [size_cons, size_cons]
      omega

theorem upd_none {s : ByteArray} {g : Fl → Fl} {fs : List Fl} (h : ∀ f ∈ fs, f.name ≠ s) : upd s g fs = fs := by
  unfold upd
  conv => rhs; rw [← List.map_id fs]
  exact List.map_congr_left fun f hf => by simp [h f hf]

/-- A file's change changes how much there is. -/
theorem size_upd {s : ByteArray} {g : Fl → Fl} {f : Fl} : ∀ {fs : List Fl}, Rises fs → get s fs = some f → size (upd s g fs) + f.b.length = size fs + (g f).b.length
  | [], _, h => by simp [get] at h
  | a :: fs, hr, h => by
    unfold get at h
    rw [List.find?_cons] at h
    by_cases ha : a.name = s
    · simp only [ha, decide_true, Option.some.injEq] at h
      subst h
      have hn : upd s g fs = fs := upd_none (fun x hx => by rw [← ha]; exact hr.notin x hx)
      have e : upd s g (a :: fs) = g a :: upd s g fs := by simp [upd, ha]
      rw [e, hn, size_cons, size_cons]
      omega
    · simp only [ha, decide_false] at h
      have ih := size_upd (g := g) hr.tail h
      have e : upd s g (a :: fs) = a :: upd s g fs := by simp [upd, ha]
      rw [e, size_cons, size_cons]
      omega

theorem len_upd (s : ByteArray) (g : Fl → Fl) (fs : List Fl) : (upd s g fs).length = fs.length := by simp [upd]
theorem len_lay (f : Fl) : ∀ fs : List Fl, (lay f fs).length = fs.length + 1
  | [] => rfl
  | a :: fs => by
    unfold lay
    split
    · rw [List.length_cons, len_lay f fs, List.length_cons]
    · rfl
theorem len_del (s : ByteArray) (fs : List Fl) : (del s fs).length ≤ fs.length := List.length_filter_le _ _

/-- What holds of every disk. -/
structure Ok (st : St) : Prop where
  rises : Rises st.fs
  good : ∀ f ∈ st.fs, may f.name = true
  safe : ∀ f ∈ st.fs, f.safe ≤ f.b.length
  fits : size st.fs ≤ st.room
  room : 64 ≤ st.room ∧ st.room ≤ 1048576

theorem err_cases (st : St) (s : ByteArray) : (err st s = 10 ∧ st.off = true) ∨ (err st s = 1 ∧ st.off = false ∧ may s = false) ∨ (err st s = 4 ∧ st.off = false ∧ may s = true ∧ get s st.fs = none) ∨ (err st s = 0 ∧ st.off = false ∧ may s = true ∧ ∃ f, get s st.fs = some f) := by
  unfold err
  cases ho : st.off with
  | true => exact Or.inl ⟨rfl, rfl⟩
  | false =>
    cases hm : may s with
    | false => exact Or.inr (Or.inl ⟨rfl, rfl, rfl⟩)
    | true =>
      cases hg : get s st.fs with
      | none => exact Or.inr (Or.inr (Or.inl ⟨rfl, rfl, rfl, rfl⟩))
      | some f => exact Or.inr (Or.inr (Or.inr ⟨rfl, rfl, rfl, f, rfl⟩))

theorem mem_upd {s : ByteArray} {g : Fl → Fl} {fs : List Fl} {x : Fl} (h : x ∈ upd s g fs) : ∃ f ∈ fs, (x = g f ∧ f.name = s) ∨ (x = f ∧ f.name ≠ s) := by
  unfold upd at h
  obtain ⟨f, hf, rfl⟩ := List.mem_map.1 h
  refine ⟨f, hf, ?_⟩
  by_cases hn : f.name = s
  · exact Or.inl ⟨by simp [hn], hn⟩
  · exact Or.inr ⟨by simp [hn], hn⟩

theorem ok_append {st : St} (h : Ok st) (s : ByteArray) (b : List UInt8) : Ok (append st s b).2 := by
  unfold append
  rcases err_cases st s with ⟨e, _⟩ | ⟨e, _⟩ | ⟨e, ho, hm, hg⟩ | ⟨e, ho, hm, f, hg⟩
  · rw [e]; exact h
  · rw [e]; exact h
  · rw [e]
    simp only [Int.reduceEq, or_self, if_false, if_true]
    split
    · exact h
    · rename_i hl
      refine ⟨rises_lay h.rises (get_none hg), fun x hx => ?_, fun x hx => ?_, ?_, h.room⟩
      · rcases mem_lay.1 hx with rfl | hx
        · exact hm
        · exact h.good x hx
      · rcases mem_lay.1 hx with rfl | hx
        · exact Nat.zero_le _
        · exact h.safe x hx
      · simp only [size_lay]
        omega
  · rw [e]
    simp only [Int.reduceEq, or_self, if_false]
    split
    · exact h
    · rename_i hl
      refine ⟨rises_upd (fun _ => rfl) h.rises, fun x hx => ?_, fun x hx => ?_, ?_, h.room⟩
      · obtain ⟨y, hy, ⟨rfl, _⟩ | ⟨rfl, _⟩⟩ := mem_upd hx
        · exact h.good y hy
        · exact h.good _ hy
      · obtain ⟨y, hy, ⟨rfl, _⟩ | ⟨rfl, _⟩⟩ := mem_upd hx
        · have := h.safe y hy
          simp only [List.length_append]
          omega
        · exact h.safe _ hy
      · have := size_upd (g := fun f => { f with b := f.b ++ b }) h.rises hg
        simp only [List.length_append] at this
        simp only []
        omega

/-- What the room answers. -/
theorem append_room {st : St} (h : Ok st) (s : ByteArray) (b : List UInt8) (ho : st.off = false) (hm : may s = true) :
    ((append st s b).1 = if st.room < size st.fs + b.length then 9 else 0) ∧ size (append st s b).2.fs = (if st.room < size st.fs + b.length then size st.fs else size st.fs + b.length) ∧ (append st s b).2.off = false ∧ (append st s b).2.room = st.room ∧ (append st s b).2.lives = st.lives ∧ (append st s b).2.fs.length ≤ st.fs.length + 1 := by
  unfold append
  rcases err_cases st s with ⟨e, h1⟩ | ⟨e, _, h1⟩ | ⟨e, _, _, hg⟩ | ⟨e, _, _, f, hg⟩
  · rw [ho] at h1; cases h1
  · rw [hm] at h1; cases h1
  · rw [e]
    simp only [Int.reduceEq, or_self, if_false, if_true]
    split
    · exact ⟨rfl, rfl, ho, rfl, rfl, Nat.le_succ _⟩
    · refine ⟨rfl, ?_, ho, rfl, rfl, by simp [len_lay]⟩
      simp only [size_lay]
      omega
  · rw [e]
    simp only [Int.reduceEq, or_self, if_false]
    split
    · exact ⟨rfl, rfl, ho, rfl, rfl, Nat.le_succ _⟩
    · refine ⟨rfl, ?_, ho, rfl, rfl, by simp [len_upd]⟩
      have := size_upd (g := fun f => { f with b := f.b ++ b }) h.rises hg
      simp only [List.length_append] at this
      simp only []
      omega

theorem ok_sync {st : St} (h : Ok st) (s : ByteArray) : Ok (sync st s).2 := by
  unfold sync
  rcases err_cases st s with ⟨e, _⟩ | ⟨e, _⟩ | ⟨e, _⟩ | ⟨e, ho, hm, f, hg⟩
  · rw [e]; exact h
  · rw [e]; exact h
  · rw [e]; exact h
  · rw [e]
    simp only [if_true]
    refine ⟨rises_upd (fun _ => rfl) h.rises, fun x hx => ?_, fun x hx => ?_, ?_, h.room⟩
    · obtain ⟨y, hy, ⟨rfl, _⟩ | ⟨rfl, _⟩⟩ := mem_upd hx
      · exact h.good y hy
      · exact h.good _ hy
    · obtain ⟨y, hy, ⟨rfl, _⟩ | ⟨rfl, _⟩⟩ := mem_upd hx
      · exact Nat.le_refl _
      · exact h.safe _ hy
    · have := size_upd (g := fun f => { f with safe := f.b.length }) h.rises hg
      have := h.fits
      simp only [] at *
      omega

theorem ok_cut {st : St} (h : Ok st) (s : ByteArray) (n : Int) : Ok (cut st s n).2 := by
  unfold cut
  rcases err_cases st s with ⟨e, _⟩ | ⟨e, _⟩ | ⟨e, _⟩ | ⟨e, ho, hm, f, hg⟩
  · rw [e]; exact h
  · rw [e]; exact h
  · rw [e]; exact h
  · rw [e]
    simp only [if_true]
    split
    · exact h
    · refine ⟨rises_upd (fun _ => rfl) h.rises, fun x hx => ?_, fun x hx => ?_, ?_, h.room⟩
      · obtain ⟨y, hy, ⟨rfl, _⟩ | ⟨rfl, _⟩⟩ := mem_upd hx
        · exact h.good y hy
        · exact h.good _ hy
      · obtain ⟨y, hy, ⟨rfl, _⟩ | ⟨rfl, _⟩⟩ := mem_upd hx
        · have := h.safe y hy
          simp only [List.length_take]
          omega
        · exact h.safe _ hy
      · have h1 := size_upd (g := fun f => { f with b := f.b.take n.toNat, safe := min f.safe n.toNat }) h.rises hg
        have h2 := h.fits
        simp only [List.length_take] at h1
        simp only []
        omega

theorem ok_drop {st : St} (h : Ok st) (s : ByteArray) : Ok (drop st s).2 := by
  unfold drop
  split
  · exact ⟨rises_del h.rises, fun x hx => h.good x (mem_del.1 hx).1, fun x hx => h.safe x (mem_del.1 hx).1, Nat.le_trans (size_del_le _ _) h.fits, h.room⟩
  · exact h

theorem ok_rename {st : St} (h : Ok st) (s t : ByteArray) : Ok (rename st s t).2 := by
  unfold rename
  split
  · exact h
  split
  · exact h
  rename_i hm
  have ht : may t = true := by
    cases e : may t with
    | true => rfl
    | false => exact absurd (Or.inr e) hm
  cases hg : get s st.fs with
  | none => exact h
  | some f =>
    simp only []
    split
    · exact h
    · rename_i hst
      obtain ⟨hf, hfn⟩ := get_some hg
      refine ⟨rises_lay (rises_del (rises_del h.rises)) (fun g hg2 => (mem_del.1 hg2).2), fun x hx => ?_, fun x hx => ?_, ?_, h.room⟩
      · rcases mem_lay.1 hx with rfl | hx
        · exact ht
        · exact h.good x (mem_del.1 (mem_del.1 hx).1).1
      · rcases mem_lay.1 hx with rfl | hx
        · exact h.safe f hf
        · exact h.safe x (mem_del.1 (mem_del.1 hx).1).1
      · have h1 := size_del hg
        have h2 := size_del_le t (del s st.fs)
        have h3 := h.fits
        simp only [size_lay]
        omega

theorem kept_le {f : Fl} (h : f.safe ≤ f.b.length) (keep : Int) : kept f keep ≤ f.b.length := by unfold kept; omega

theorem size_map_le {g : Fl → Fl} (hg : ∀ f, (g f).b.length ≤ f.b.length) (fs : List Fl) : size (fs.map g) ≤ size fs := by
  induction fs with
  | nil => simp [size]
  | cons a fs ih =>
    rw [List.map_cons, size_cons, size_cons]
    have := hg a
    omega

theorem ok_crash {st : St} (h : Ok st) (keep : Int) : Ok (crash st keep) := by
  unfold crash
  refine ⟨?_, fun x hx => ?_, fun x hx => ?_, ?_, h.room⟩
  · unfold Rises
    rw [List.pairwise_map]
    exact h.rises.imp fun hab => hab
  · obtain ⟨f, hf, rfl⟩ := List.mem_map.1 hx
    exact h.good f hf
  · obtain ⟨f, hf, rfl⟩ := List.mem_map.1 hx
    have := kept_le (h.safe f hf) keep
    simp only [List.length_take]
    omega
  · exact Nat.le_trans (size_map_le (fun f => by simp only [List.length_take]; omega) _) h.fits

theorem ok_on {st : St} (h : Ok st) : Ok (on st) := ⟨h.rises, h.good, h.safe, h.fits, h.room⟩
theorem ok_new (n : Nat) (h : 64 ≤ n ∧ n ≤ 1048576) : Ok ⟨n, [], false, 1⟩ := ⟨List.Pairwise.nil, fun x hx => (by cases hx), fun x hx => (by cases hx), Nat.zero_le _, h⟩

/-! One file. -/
theorem get_one (n : ByteArray) (x : List UInt8) (k : Nat) : get n [⟨n, x, k⟩] = some ⟨n, x, k⟩ := by simp [get]
theorem err_one {r l : Nat} {n : ByteArray} (x : List UInt8) (k : Nat) (hn : may n = true) : err ⟨r, [⟨n, x, k⟩], false, l⟩ n = 0 := by simp [err, hn, get_one]
theorem append_new {r l : Nat} {n : ByteArray} (a : List UInt8) (hn : may n = true) (ha : a.length ≤ r) : append ⟨r, [], false, l⟩ n a = (0, ⟨r, [⟨n, a, 0⟩], false, l⟩) := by
  have he : err ⟨r, [], false, l⟩ n = 4 := by simp [err, hn, get]
  unfold append
  rw [he]
  simp [size, lay]
  omega
theorem append_one {r l k : Nat} {n : ByteArray} {x : List UInt8} (a : List UInt8) (hn : may n = true) (ha : x.length + a.length ≤ r) : append ⟨r, [⟨n, x, k⟩], false, l⟩ n a = (0, ⟨r, [⟨n, x ++ a, k⟩], false, l⟩) := by
  unfold append
  rw [err_one x k hn]
  simp [size, upd]
  omega
theorem sync_one {r l k : Nat} {n : ByteArray} {x : List UInt8} (hn : may n = true) : sync ⟨r, [⟨n, x, k⟩], false, l⟩ n = (0, ⟨r, [⟨n, x, x.length⟩], false, l⟩) := by
  unfold sync
  rw [err_one x k hn]
  simp [upd]
theorem read_one {r l k : Nat} {n : ByteArray} {x : List UInt8} (hn : may n = true) : read ⟨r, [⟨n, x, k⟩], false, l⟩ n = (x, 0) := by
  unfold read
  rw [err_one x k hn]
  simp [get_one]
theorem crash_one {r l : Nat} {n : ByteArray} (a b : List UInt8) (keep : Int) (off : Bool) : crash ⟨r, [⟨n, a ++ b, a.length⟩], off, l⟩ keep = ⟨r, [⟨n, a ++ b.take (min keep.toNat b.length), a.length + min keep.toNat b.length⟩], true, l⟩ := by
  have e : kept ⟨n, a ++ b, a.length⟩ keep = a.length + min keep.toNat b.length := by simp [kept]
  unfold crash
  simp only [List.map_cons, List.map_nil, e]
  rw [List.take_append, List.take_of_length_le (by omega), show a.length + min keep.toNat b.length - a.length = min keep.toNat b.length by omega]
theorem crash_bare {r l : Nat} {n : ByteArray} (a : List UInt8) (keep : Int) {x : List UInt8} {off : Bool} (hx : x = a.take (min keep.toNat a.length)) : crash ⟨r, [⟨n, a, 0⟩], off, l⟩ keep = ⟨r, [⟨n, x, x.length⟩], true, l⟩ := by
  have e : kept ⟨n, a, 0⟩ keep = min keep.toNat a.length := by simp [kept]
  unfold crash
  simp only [List.map_cons, List.map_nil, e]
  rw [hx, List.length_take, show min (min keep.toNat a.length) a.length = min keep.toNat a.length by omega]
theorem crash_safe {r l : Nat} {n : ByteArray} (x : List UInt8) (keep : Int) {off : Bool} : crash ⟨r, [⟨n, x, x.length⟩], off, l⟩ keep = ⟨r, [⟨n, x, x.length⟩], true, l⟩ := by
  have e : kept ⟨n, x, x.length⟩ keep = x.length := by simp [kept]
  unfold crash
  simp only [List.map_cons, List.map_nil, e]
  rw [List.take_of_length_le (Nat.le_refl _)]
theorem crash_zero {r l : Nat} {n : ByteArray} (a b : List UInt8) {off : Bool} : crash ⟨r, [⟨n, a ++ b, a.length⟩], off, l⟩ 0 = ⟨r, [⟨n, a, a.length⟩], true, l⟩ := by
  rw [crash_one]
  simp
/-! Two files. -/
theorem append_second {r l k : Nat} {n m : ByteArray} {x : List UInt8} (c : List UInt8) (hm : may m = true) (hnm : n ≠ m) (hl : less n m = true) (hc : x.length + c.length ≤ r) : append ⟨r, [⟨n, x, k⟩], false, l⟩ m c = (0, ⟨r, [⟨n, x, k⟩, ⟨m, c, 0⟩], false, l⟩) := by
  have he : err ⟨r, [⟨n, x, k⟩], false, l⟩ m = 4 := by simp [err, hm, get, hnm]
  unfold append
  rw [he]
  simp [size, lay, hl]
  omega
theorem sync_second {r l k j : Nat} {n m : ByteArray} {x c : List UInt8} (hm : may m = true) (hnm : n ≠ m) : sync ⟨r, [⟨n, x, k⟩, ⟨m, c, j⟩], false, l⟩ m = (0, ⟨r, [⟨n, x, k⟩, ⟨m, c, c.length⟩], false, l⟩) := by
  have he : err ⟨r, [⟨n, x, k⟩, ⟨m, c, j⟩], false, l⟩ m = 0 := by simp [err, hm, get, hnm]
  unfold sync
  rw [he]
  simp [upd, hnm]
theorem rename_over {r l k j : Nat} {n m : ByteArray} {x c : List UInt8} (hn : may n = true) (hm : may m = true) (hnm : n ≠ m) : rename ⟨r, [⟨n, x, k⟩, ⟨m, c, j⟩], false, l⟩ n m = (0, ⟨r, [⟨m, x, k⟩], false, l⟩) := by
  have hmn : m ≠ n := fun e => hnm e.symm
  unfold rename
  simp [hn, hm, get, hnm, del, hmn, lay]
theorem read_gone {r l k : Nat} {n m : ByteArray} {x : List UInt8} (hm : may m = true) (hnm : n ≠ m) : read ⟨r, [⟨n, x, k⟩], false, l⟩ m = ([], 4) := by
  have he : err ⟨r, [⟨n, x, k⟩], false, l⟩ m = 4 := by simp [err, hm, get, hnm]
  unfold read
  rw [he]
  rfl
theorem read_off {r l : Nat} {fs : List Fl} (n : ByteArray) : read ⟨r, fs, true, l⟩ n = ([], 10) := by simp [read, err]
end Go.Proofs.Ytmbpkbdaakchiaa.Dq
