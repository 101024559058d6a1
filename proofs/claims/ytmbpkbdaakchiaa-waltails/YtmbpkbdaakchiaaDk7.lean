/- The disk as it landed: a map of files, each in a block of its own, its bytes in a row of their own. -/
import Derived.Test.YtmbpkbdaakchiaaSpecs7
import Derived.Maps.RangeWalk
import Derived.Maps.AppendAt
import Derived.Sort.KeysCollected
namespace Go.Proofs.Ytmbpkbdaakchiaa.Dq
theorem Rises.uniq : ∀ {fs : List Fl}, Rises fs → ∀ {f g : Fl}, f ∈ fs → g ∈ fs → f.name = g.name → f = g
  | [], _, _, _, h, _, _ => by cases h
  | a :: fs, hr, f, g, hf, hg, e => by
    rcases List.mem_cons.1 hf with rfl | hf
    · rcases List.mem_cons.1 hg with rfl | hg
      · rfl
      · exact absurd e.symm (hr.notin g hg)
    · rcases List.mem_cons.1 hg with hga | hg
      · rw [hga] at e ⊢
        exact absurd e (hr.notin f hf)
      · exact hr.tail.uniq hf hg e
theorem get_mem {s : ByteArray} {fs : List Fl} (hr : Rises fs) {f : Fl} (hf : f ∈ fs) (hn : f.name = s) : get s fs = some f := by
  cases h : get s fs with
  | none => exact absurd hn (get_none h f hf)
  | some g =>
    obtain ⟨h1, h2⟩ := get_some h
    rw [hr.uniq h1 hf (h2.trans hn.symm)]
theorem size_mem {fs : List Fl} {f : Fl} (hf : f ∈ fs) : f.b.length ≤ size fs := by
  induction fs with
  | nil => cases hf
  | cons a fs ih =>
    rw [size_cons]
    rcases List.mem_cons.1 hf with rfl | hf
    · omega
    · have := ih hf
      omega
theorem size_del_eq {s : ByteArray} {f : Fl} : ∀ {fs : List Fl}, Rises fs → f ∈ fs → f.name = s → size (del s fs) + f.b.length = size fs ∧ (del s fs).length + 1 = fs.length
  | [], _, h, _ => by cases h
  | a :: fs, hr, hf, hn => by
    rcases List.mem_cons.1 hf with rfl | hf
    · have e : del s (f :: fs) = del s fs := by simp [del, hn]
      have e2 : del s fs = fs := by
        unfold del
        rw [List.filter_eq_self]
        intro x hx
        have := hr.notin x hx
        rw [hn] at this
        simpa using this
      rw [e, e2, size_cons, List.length_cons]
      exact ⟨by omega, rfl⟩
    · have ha : a.name ≠ s := fun e => hr.notin f hf (by rw [hn, e])
      have e : del s (a :: fs) = a :: del s fs := by simp [del, ha]
      obtain ⟨h1, h2⟩ := size_del_eq hr.tail hf hn
      rw [e, size_cons, size_cons, List.length_cons, List.length_cons]
      exact ⟨by omega, by omega⟩
end Go.Proofs.Ytmbpkbdaakchiaa.Dq
namespace Go.Proofs.Ytmbpkbdaakchiaa
open Go.RowKit

/-- A file's pointer, as an element of the map. -/
def fElem : Value → Option (DataW Nat × List MemPlace)
  | .pointer none => some (.nil, [])
  | .pointer (some ⟨p, 0, none⟩) => some (.held p, [])
  | _ => none
/-- A file's pointer. -/
abbrev fptr (p : Nat) : Value := .pointer (some ⟨p, 0, none⟩)
theorem fElem_ptr (p : Nat) : fElem (fptr p) = some (.held p, []) := rfl
theorem fElem_inv {v : Value} {y : DataW Nat × List MemPlace} (h : fElem v = some y) : ∃ o : Option Nat, v = .pointer (o.map fun p => ⟨p, 0, none⟩) := by
  unfold fElem at h
  split at h
  · exact ⟨none, rfl⟩
  · exact ⟨some _, rfl⟩
  · cases h
theorem fElem_held {v : Value} {p : Nat} {ps : List MemPlace} (h : fElem v = some (.held p, ps)) : v = fptr p := by
  unfold fElem at h
  split at h
  · cases h
  · cases h; rfl
  · cases h
theorem fElem_nil {v : Value} {ps : List MemPlace} (h : fElem v = some (.nil, ps)) : v = .pointer none := by
  unfold fElem at h
  split at h
  · rfl
  · cases h
  · cases h

def fkey (s : ByteArray) : Lit := .string s.data.toList
theorem fkey_inj {s t : ByteArray} (h : fkey s = fkey t) : s = t := by
  unfold fkey at h
  simp only [Lit.string.injEq] at h
  exact bytes_eq (by rw [ByteArray.toList_eq, ByteArray.toList_eq, h]; simp)
theorem keyed7 : Maps.Keyed Try.prog 9 := Maps.string_keyed Try.underlying9
theorem key_of {s : ByteArray} (hs : s.size ≤ maxLen) : keyOf Try.prog 9 (.string s) = some (fkey s) := Go.WideMaps.keyOf_string_mk Try.underlying9 hs
theorem fkey_lit {s : ByteArray} (hs : s.size ≤ maxLen) : WideAt.IsKeyLit (fkey s) := keyed7.key (key_of hs)
theorem may_len {s : ByteArray} (h : Dq.may s = true) : s.size ≤ maxLen := by
  unfold Dq.may at h
  simp only [Bool.and_eq_true, decide_eq_true_eq] at h
  have := h.1.2
  unfold maxLen
  omega

/-- A block of cells. -/
def Blk (w : World) (k : Nat) (cs : List Value) (t : TypeId) : Prop := w.heap[k]? = some (.cells cs.toArray t (0, 0))
theorem Blk.cell {w : World} {k : Nat} {cs : List Value} {t : TypeId} (h : Blk w k cs t) (i : Nat) : w.cell? ⟨k, i, none⟩ = cs[i]? := by
  unfold Blk at h
  simp [World.cell?, h]
theorem Blk.free {w : World} {k : Nat} {cs : List Value} {t : TypeId} (h : Blk w k cs t) (i : Nat) : w.frozen? ⟨k, i, none⟩ = false := by
  unfold Blk at h
  simp only [World.frozen?, h]
  rfl
theorem Blk.lt {w : World} {k : Nat} {cs : List Value} {t : TypeId} (h : Blk w k cs t) : k < w.heap.size := (Array.getElem?_eq_some_iff.1 h).1
theorem Blk.set {w : World} {k : Nat} {cs : List Value} {t : TypeId} (h : Blk w k cs t) (i : Nat) (u : Value) : Blk (w.setCell ⟨k, i, none⟩ u) k (cs.set i u) t := by
  unfold Blk at h ⊢
  simp [World.setCell, Array.getElem?_modify, h]
theorem Blk.keep {w w' : World} {k : Nat} {cs : List Value} {t : TypeId} (h : Blk w k cs t) (hk : w'.heap[k]? = w.heap[k]?) : Blk w' k cs t := hk.trans h
theorem Blk.made (w : World) (cs : List Value) (t : TypeId) : Blk (w.alloc (.cells cs.toArray t)) w.heap.size cs t := heap_alloc_new w _

theorem row_block {w : World} {B n s k : Nat} {t : TypeId} {v : Value} {us : List Value} (h : w.ownsRow B t s v n us) (hk : v.ownBlock = some k) : ∃ cur, w.heap[k]? = some (.cells cur t (0, 0)) := by
  rcases h.2 with ⟨rfl, _⟩ | ⟨g, cap, cur, rfl, _, hg, _⟩
  · cases hk
  · simp only [Value.ownBlock, Option.some.injEq] at hk
    subst hk
    exact ⟨cur, hg⟩
theorem row_keep {w w' : World} {B n s : Nat} {t : TypeId} {v : Value} {us : List Value} (h : w.ownsRow B t s v n us) (hk : ∀ k, v.ownBlock = some k → w'.heap[k]? = w.heap[k]?) : w'.ownsRow B t s v n us := by
  refine ⟨h.1, ?_⟩
  rcases h.2 with h1 | ⟨g, cap, cur, e, h1, h2, h3⟩
  · exact Or.inl h1
  · exact Or.inr ⟨g, cap, cur, e, h1, by rw [hk g (by rw [e]; rfl)]; exact h2, h3⟩
theorem row_slice {w : World} {B n s : Nat} {t : TypeId} {v : Value} {us : List Value} (h : w.ownsRow B t s v n us) : ∃ a c, v = .slice a n c ∧ n ≤ c := by
  rcases h.2 with ⟨rfl, rfl⟩ | ⟨g, cap, cur, rfl, _, _, hn, _⟩
  · exact ⟨_, _, rfl, Nat.le_refl _⟩
  · exact ⟨_, _, rfl, hn⟩

/-- A file in its block. -/
structure Fd (w : World) (p : Nat) (v : Value) (f : Dq.Fl) : Prop where
  blk : Blk w p [v, .int .i64 (f.safe : Int)] 63
  row : w.ownsRow 0 5 1 v f.b.length (bc f.b)
theorem Fd.keep {w w' : World} {p : Nat} {v : Value} {f : Dq.Fl} (h : Fd w p v f) (hp : w'.heap[p]? = w.heap[p]?) (hk : ∀ k, v.ownBlock = some k → w'.heap[k]? = w.heap[k]?) : Fd w' p v f := ⟨h.blk.keep hp, row_keep h.row hk⟩

/-- The disk at q; u: what it takes for the bytes of all files. -/
structure DkU (w : World) (q : Nat) (st : Dq.St) (G : Nat → Prop) (m : Nat) (D : DataW Nat) (P : ByteArray → Nat) (V : ByteArray → Value) (u : Nat) : Prop where
  blk : Blk w q [.map (some m), .int .i64 (st.room : Int), .int .i64 (u : Int), .bool (!st.off), .int .i64 (st.lives : Int)] 46
  own : w.ownsMap Try.prog 9 fElem m st.fs.length D
  has : ∀ kl, Maps.has D kl = true ↔ ∃ f ∈ st.fs, kl = fkey f.name
  at_ : ∀ f ∈ st.fs, ∀ z, D.atKey (fkey f.name) z = .held (P f.name)
  file : ∀ f ∈ st.fs, Fd w (P f.name) (V f.name) f
  apart : ∀ f ∈ st.fs, ∀ g ∈ st.fs, f.name ≠ g.name → P f.name ≠ P g.name ∧ ∀ k, (V f.name).ownBlock = some k → (V g.name).ownBlock ≠ some k
  gq : G q
  gm : G m
  gf : ∀ f ∈ st.fs, G (P f.name) ∧ ∀ k, (V f.name).ownBlock = some k → G k
  glt : ∀ k, G k → k < w.heap.size

def DkD : Rep := fun w q st G => ∃ m D P V, DkU w q st G m D P V (Dq.size st.fs)

section
variable {w w' : World} {q m u : Nat} {st : Dq.St} {G : Nat → Prop} {D : DataW Nat} {P : ByteArray → Nat} {V : ByteArray → Value}

theorem DkU.keep (h : DkU w q st G m D P V u) (hs : w.heap.size ≤ w'.heap.size) (hk : ∀ k, G k → w'.heap[k]? = w.heap[k]?) : DkU w' q st G m D P V u := by
  refine ⟨h.blk.keep (hk q h.gq), ?_, h.has, h.at_, fun f hf => (h.file f hf).keep (hk _ (h.gf f hf).1) (fun k e => hk k ((h.gf f hf).2 k e)), h.apart, h.gq, h.gm, h.gf, fun k e => Nat.lt_of_lt_of_le (h.glt k e) hs⟩
  obtain ⟨es, clock, hb, r⟩ := h.own
  exact ⟨es, clock, (hk m h.gm).trans hb, r⟩
theorem DkU.below (h : DkU w q st G m D P V u) (hb : Below w.heap.size w w') : DkU w' q st G m D P V u := h.keep hb.size fun k hk => hb.block k (h.glt k hk)
theorem DkU.more {G' : Nat → Prop} (h : DkU w q st G m D P V u) (hs : ∀ k, G k → G' k) (hl : ∀ k, G' k → k < w.heap.size) : DkU w q st G' m D P V u :=
  ⟨h.blk, h.own, h.has, h.at_, h.file, h.apart, hs q h.gq, hs m h.gm, fun f hf => ⟨hs _ (h.gf f hf).1, fun k e => hs k ((h.gf f hf).2 k e)⟩, hl⟩

/-! Blocks of other kinds are other blocks. -/
theorem DkU.ne_m (h : DkU w q st G m D P V u) : m ≠ q := fun e => by
  obtain ⟨es, clock, hb, _⟩ := h.own
  have := h.blk
  unfold Blk at this
  rw [e, this] at hb
  cases hb
theorem DkU.p_m (h : DkU w q st G m D P V u) {f : Dq.Fl} (hf : f ∈ st.fs) : P f.name ≠ m := fun e => by
  obtain ⟨es, clock, hb, _⟩ := h.own
  have := (h.file f hf).blk
  unfold Blk at this
  rw [e, hb] at this
  cases this
theorem DkU.p_q (h : DkU w q st G m D P V u) {f : Dq.Fl} (hf : f ∈ st.fs) : P f.name ≠ q := fun e => by
  have h1 := (h.file f hf).blk
  have h2 := h.blk
  unfold Blk at h1 h2
  rw [e, h2] at h1
  simp only [Option.some.injEq, Obj.cells.injEq] at h1
  exact absurd h1.2.1 (by decide)
theorem DkU.v_m (h : DkU w q st G m D P V u) {f : Dq.Fl} (hf : f ∈ st.fs) : (V f.name).ownBlock ≠ some m := fun e => by
  obtain ⟨es, clock, hb, _⟩ := h.own
  obtain ⟨cur, hc⟩ := row_block (h.file f hf).row e
  rw [hb] at hc
  cases hc
theorem DkU.v_q (h : DkU w q st G m D P V u) {f : Dq.Fl} (hf : f ∈ st.fs) : (V f.name).ownBlock ≠ some q := fun e => by
  obtain ⟨cur, hc⟩ := row_block (h.file f hf).row e
  have h2 := h.blk
  unfold Blk at h2
  rw [h2] at hc
  simp only [Option.some.injEq, Obj.cells.injEq] at hc
  exact absurd hc.2.1 (by decide)
theorem fd_v_p {p p' : Nat} {v v' : Value} {f f' : Dq.Fl} (h : Fd w p v f) (h' : Fd w p' v' f') : v.ownBlock ≠ some p' := fun e => by
  obtain ⟨cur, hc⟩ := row_block h.row e
  have h2 := h'.blk
  unfold Blk at h2
  rw [h2] at hc
  simp only [Option.some.injEq, Obj.cells.injEq] at hc
  exact absurd hc.2.1 (by decide)

/-- The blocks that there are behind a call. -/
def Gd (w w' : World) (G : Nat → Prop) : Nat → Prop := fun k => G k ∨ (w.heap.size ≤ k ∧ k < w'.heap.size)
theorem Moved.gd {F : Nat → Prop} (h : Moved w w' F F) (hs : ∀ k, F k → G k) : Moved w w' G (Gd w w' G) :=
  ⟨h.os, h.tape, h.output, h.size, fun k hk hG => h.block k hk (fun e => hG (hs k e)), fun _ hk => hk.imp id (fun x => x.1)⟩
theorem Moved.gd_lt (hs : w.heap.size ≤ w'.heap.size) (hl : ∀ k, G k → k < w.heap.size) : ∀ k, Gd w w' G k → k < w'.heap.size := fun k hk => by
  rcases hk with hk | hk
  · exact Nat.lt_of_lt_of_le (hl k hk) hs
  · exact hk.2

/-- One file has changed. -/
theorem DkU.change (h : DkU w q st G m D P V u) (hr : Dq.Rises st.fs) {f : Dq.Fl} {g : Dq.Fl → Dq.Fl} {v' : Value} {u' : Nat} {s : ByteArray} (hf : f ∈ st.fs) (hn : f.name = s) (hg : ∀ x, (g x).name = x.name)
    (hq : Blk w' q [.map (some m), .int .i64 (st.room : Int), .int .i64 (u' : Int), .bool (!st.off), .int .i64 (st.lives : Int)] 46)
    (hfile : Fd w' (P s) v' (g f)) (hloc : ∀ k, v'.ownBlock = some k → (V s).ownBlock = some k ∨ w.heap.size ≤ k)
    (hm : Moved w w' (fun k => k = q ∨ k = P s ∨ (V s).ownBlock = some k) (fun k => k = q ∨ k = P s ∨ (V s).ownBlock = some k)) :
    DkU w' q { st with fs := Dq.upd s g st.fs } (Gd w w' G) m D P (fun x => if x = s then v' else V x) u' ∧ Moved w w' G (Gd w w' G) ∧ w'.heap[m]? = w.heap[m]? := by
  subst hn
  have hmm : w'.heap[m]? = w.heap[m]? := hm.block m (h.glt m h.gm) (by
    rintro (e | e | e)
    · exact h.ne_m e
    · exact h.p_m hf e.symm
    · exact h.v_m hf e)
  have hmem : ∀ x ∈ Dq.upd f.name g st.fs, (x = g f) ∨ (x ∈ st.fs ∧ x.name ≠ f.name) := fun x hx => by
    obtain ⟨y, hy, h1 | h1⟩ := Dq.mem_upd hx
    · rw [hr.uniq hy hf h1.2] at h1
      exact Or.inl h1.1
    · rw [h1.1]
      exact Or.inr ⟨hy, h1.2⟩
  have hname : ∀ x ∈ Dq.upd f.name g st.fs, ∃ y ∈ st.fs, y.name = x.name := fun x hx => by
    rcases hmem x hx with e | e
    · exact ⟨f, hf, by rw [e, hg]⟩
    · exact ⟨x, e.1, rfl⟩
  have hback : ∀ y ∈ st.fs, ∃ x ∈ Dq.upd f.name g st.fs, x.name = y.name := fun y hy => by
    unfold Dq.upd
    refine ⟨_, List.mem_map.2 ⟨y, hy, rfl⟩, ?_⟩
    split
    · exact hg y
    · rfl
  have hold : ∀ x ∈ st.fs, x.name ≠ f.name → Fd w' (P x.name) (V x.name) x := fun x hx hne => (h.file x hx).keep
    (hm.block _ (h.glt _ (h.gf x hx).1) (by
      rintro (e | e | e)
      · exact h.p_q hx e
      · exact (h.apart x hx f hf hne).1 e
      · exact fd_v_p (h.file f hf) (h.file x hx) e))
    (fun k hk => hm.block _ (h.glt _ ((h.gf x hx).2 k hk)) (by
      rintro (e | e | e)
      · exact h.v_q hx (e ▸ hk)
      · exact fd_v_p (h.file x hx) (h.file f hf) (e ▸ hk)
      · exact (h.apart x hx f hf hne).2 k hk e))
  have hsub : ∀ k, (k = q ∨ k = P f.name ∨ (V f.name).ownBlock = some k) → G k := by
    rintro k (e | e | e)
    · exact e ▸ h.gq
    · exact e ▸ (h.gf f hf).1
    · exact (h.gf f hf).2 k e
  refine ⟨⟨hq, ?_, fun kl => ?_, fun x hx z => ?_, fun x hx => ?_, fun x hx y hy hne => ?_, Or.inl h.gq, Or.inl h.gm, fun x hx => ?_, Moved.gd_lt hm.size h.glt⟩, hm.gd hsub, hmm⟩
  · obtain ⟨es, clock, hb, r⟩ := h.own
    simp only [Dq.len_upd]
    exact ⟨es, clock, hmm.trans hb, r⟩
  · rw [h.has]
    constructor
    · rintro ⟨y, hy, e⟩
      obtain ⟨x, hx, e2⟩ := hback y hy
      exact ⟨x, hx, by rw [e2]; exact e⟩
    · rintro ⟨x, hx, e⟩
      obtain ⟨y, hy, e2⟩ := hname x hx
      exact ⟨y, hy, by rw [e2]; exact e⟩
  · obtain ⟨y, hy, e2⟩ := hname x hx
    rw [← e2]
    exact h.at_ y hy z
  · rcases hmem x hx with e | e
    · rw [e, hg]
      simpa using hfile
    · simp only [if_neg e.2]
      exact hold x e.1 e.2
  · have hnew : ∀ k, v'.ownBlock = some k → ∀ y ∈ st.fs, y.name ≠ f.name → (V y.name).ownBlock ≠ some k := fun k hk y hy hne e => by
      rcases hloc k hk with h1 | h1
      · exact (h.apart y hy f hf hne).2 k e h1
      · have := h.glt k ((h.gf y hy).2 k e)
        omega
    rcases hmem x hx with e | e
    · rcases hmem y hy with e' | e'
      · exact absurd (by rw [e, e']) hne
      · have hxn : x.name = f.name := by rw [e, hg]
        simp only [hxn, if_neg e'.2, if_pos]
        exact ⟨(h.apart f hf y e'.1 (Ne.symm e'.2)).1, fun k hk => hnew k hk y e'.1 e'.2⟩
    · rcases hmem y hy with e' | e'
      · have hyn : y.name = f.name := by rw [e', hg]
        simp only [hyn, if_neg e.2, if_pos]
        exact ⟨(h.apart x e.1 f hf e.2).1, fun k hk hk2 => hnew k hk2 x e.1 e.2 hk⟩
      · simp only [if_neg e.2, if_neg e'.2]
        exact h.apart x e.1 y e'.1 hne
  · rcases hmem x hx with e | e
    · have hxn : x.name = f.name := by rw [e, hg]
      simp only [hxn, if_pos]
      refine ⟨Or.inl (h.gf f hf).1, fun k hk => ?_⟩
      rcases hloc k hk with h1 | h1
      · exact Or.inl ((h.gf f hf).2 k h1)
      · obtain ⟨cur, hc⟩ := row_block hfile.row hk
        exact Or.inr ⟨h1, (Array.getElem?_eq_some_iff.1 hc).1⟩
    · simp only [if_neg e.2]
      exact ⟨Or.inl (h.gf x e.1).1, fun k hk => Or.inl ((h.gf x e.1).2 k hk)⟩

/-- How many entries there are, told by the datum. -/
theorem tight7 {n : Nat} (h : w.ownsMap Try.prog 9 fElem m n D) : w.ownsMap Try.prog 9 fElem m (Maps.size D) D := by
  obtain ⟨es, clock, hb, F, hs, rfl⟩ := h
  exact ⟨es, clock, hb, F, by simp [Maps.size, length_sorted], rfl⟩

/-- An entry goes. -/
theorem DkU.gone (h : DkU w q st G m D P V u) (hr : Dq.Rises st.fs) {f : Dq.Fl} {s : ByteArray} {n : Nat} (hf : f ∈ st.fs) (hn : f.name = s) (ho : w'.ownsMap Try.prog 9 fElem m n (D.del (fkey s))) (ht : w.mapTurned w' m) :
    DkU w' q { st with fs := Dq.del s st.fs } G m (D.del (fkey s)) P V u ∧ Moved w w' G G ∧ Fd w' (P s) (V s) f ∧ ∀ g ∈ Dq.del s st.fs, P g.name ≠ P s ∧ ∀ k, (V g.name).ownBlock = some k → (V s).ownBlock ≠ some k := by
  subst hn
  have hg := ht.grown
  have hkp : ∀ k, G k → k ≠ m → w'.heap[k]? = w.heap[k]? := fun k hk hne => hg.block k (h.glt k hk) (by simpa using hne)
  have hfd : ∀ x ∈ st.fs, Fd w' (P x.name) (V x.name) x := fun x hx => (h.file x hx).keep (hkp _ (h.gf x hx).1 (h.p_m hx)) (fun k hk => hkp k ((h.gf x hx).2 k hk) (fun e => h.v_m hx (e ▸ hk)))
  refine ⟨⟨h.blk.keep (hkp q h.gq (Ne.symm h.ne_m)), (tight7 ho).mono ?_, fun kl => ?_, fun x hx z => ?_, fun x hx => hfd x (Dq.mem_del.1 hx).1, fun x hx y hy => h.apart x (Dq.mem_del.1 hx).1 y (Dq.mem_del.1 hy).1, h.gq, h.gm, fun x hx => h.gf x (Dq.mem_del.1 hx).1, fun k hk => Nat.lt_of_lt_of_le (h.glt k hk) hg.size⟩, ⟨hg.os, hg.tape, hg.output, hg.size, fun k hk hG => hg.block k hk (by simp; exact fun e => hG (e ▸ h.gm)), fun k hk => Or.inl hk⟩, hfd f hf, fun x hx => ?_⟩
  · have h1 := Maps.size_del (k := fkey f.name) (h.own.tidy keyed7)
    have h2 : Maps.has D (fkey f.name) = true := (h.has _).2 ⟨f, hf, rfl⟩
    have h3 := h.own.size_le
    have h4 := (Dq.size_del_eq hr hf rfl).2
    rw [h2] at h1
    simp only [if_true] at h1
    simp only []
    omega
  · by_cases e : kl = fkey f.name
    · subst e
      rw [Maps.has_del_same]
      refine ⟨fun hx => (by cases hx), ?_⟩
      rintro ⟨x, hx, e⟩
      exact absurd (fkey_inj e).symm (Dq.mem_del.1 hx).2
    · rw [Maps.has_del_other e, h.has]
      constructor
      · rintro ⟨x, hx, e2⟩
        exact ⟨x, Dq.mem_del.2 ⟨hx, fun e3 => e (by rw [e2, e3])⟩, e2⟩
      · rintro ⟨x, hx, e2⟩
        exact ⟨x, (Dq.mem_del.1 hx).1, e2⟩
  · obtain ⟨hx1, hx2⟩ := Dq.mem_del.1 hx
    rw [Maps.atKey_del_other (fun e => hx2 (fkey_inj e))]
    exact h.at_ x hx1 z
  · obtain ⟨hx1, hx2⟩ := Dq.mem_del.1 hx
    exact h.apart x hx1 f hf hx2

/-- An entry comes. -/
theorem DkU.come (h : DkU w q st G m D P V u) {f : Dq.Fl} {s : ByteArray} {p n : Nat} {v : Value} (hn : f.name = s) (hlen : s.size ≤ maxLen) (hnone : Dq.get s st.fs = none) (ho : w'.ownsMap Try.prog 9 fElem m n (D.put (fkey s) (.held p))) (ht : w.mapTurned w' m)
    (hfd : Fd w p v f) (hap : ∀ g ∈ st.fs, P g.name ≠ p ∧ ∀ k, (V g.name).ownBlock = some k → v.ownBlock ≠ some k) (hG : G p ∧ ∀ k, v.ownBlock = some k → G k) (hpm : p ≠ m) (hvm : v.ownBlock ≠ some m) :
    DkU w' q { st with fs := Dq.lay f st.fs } G m (D.put (fkey s) (.held p)) (fun x => if x = s then p else P x) (fun x => if x = s then v else V x) u ∧ Moved w w' G G := by
  subst hn
  have hg := ht.grown
  have hkp : ∀ k, G k → k ≠ m → w'.heap[k]? = w.heap[k]? := fun k hk hne => hg.block k (h.glt k hk) (by simpa using hne)
  have hne : ∀ x ∈ st.fs, x.name ≠ f.name := Dq.get_none hnone
  have hcase : ∀ x ∈ Dq.lay f st.fs, x = f ∨ (x ∈ st.fs ∧ x.name ≠ f.name) := fun x hx => (Dq.mem_lay.1 hx).imp id (fun e => ⟨e, hne x e⟩)
  refine ⟨⟨h.blk.keep (hkp q h.gq (Ne.symm h.ne_m)), (tight7 ho).mono ?_, fun kl => ?_, fun x hx z => ?_, fun x hx => ?_, fun x hx y hy hxy => ?_, h.gq, h.gm, fun x hx => ?_, fun k hk => Nat.lt_of_lt_of_le (h.glt k hk) hg.size⟩, ⟨hg.os, hg.tape, hg.output, hg.size, fun k hk hG => hg.block k hk (by simp; exact fun e => hG (e ▸ h.gm)), fun k hk => Or.inl hk⟩⟩
  · have h1 := Maps.size_put (k := fkey f.name) (h.own.tidy keyed7) (.held p)
    have h3 := h.own.size_le
    simp only [Dq.len_lay]
    rw [h1]
    split <;> omega
  · by_cases e : kl = fkey f.name
    · subst e
      rw [Maps.has_put_same h.own.isMap (fkey_lit hlen)]
      exact ⟨fun _ => ⟨f, Dq.mem_lay.2 (Or.inl rfl), rfl⟩, fun _ => rfl⟩
    · rw [Maps.has_put_other e, h.has]
      constructor
      · rintro ⟨x, hx, e2⟩
        exact ⟨x, Dq.mem_lay.2 (Or.inr hx), e2⟩
      · rintro ⟨x, hx, e2⟩
        rcases hcase x hx with e3 | e3
        · exact absurd (by rw [e2, e3]) e
        · exact ⟨x, e3.1, e2⟩
  · rcases hcase x hx with e | e
    · rw [e, Maps.atKey_put_same h.own.isMap (fkey_lit hlen)]
      simp
    · rw [Maps.atKey_put_other (fun e2 => e.2 (fkey_inj e2)), if_neg e.2]
      exact h.at_ x e.1 z
  · rcases hcase x hx with e | e
    · simp only [e, if_pos]
      exact hfd.keep (hkp p hG.1 hpm) (fun k hk => hkp k (hG.2 k hk) (fun e => hvm (e ▸ hk)))
    · simp only [if_neg e.2]
      exact (h.file x e.1).keep (hkp _ (h.gf x e.1).1 (h.p_m e.1)) (fun k hk => hkp k ((h.gf x e.1).2 k hk) (fun e2 => h.v_m e.1 (e2 ▸ hk)))
  · rcases hcase x hx with e | e
    · rcases hcase y hy with e' | e'
      · exact absurd (by rw [e, e']) hxy
      · simp only [e, if_neg e'.2, if_pos]
        exact ⟨Ne.symm (hap y e'.1).1, fun k hk hk2 => (hap y e'.1).2 k hk2 hk⟩
    · rcases hcase y hy with e' | e'
      · simp only [e', if_neg e.2, if_pos]
        exact hap x e.1
      · simp only [if_neg e.2, if_neg e'.2]
        exact h.apart x e.1 y e'.1 hxy
  · rcases hcase x hx with e | e
    · simp only [e, if_pos]
      exact hG
    · simp only [if_neg e.2]
      exact h.gf x e.1
end
end Go.Proofs.Ytmbpkbdaakchiaa
