/- The landed share: a tree, Locks, three maps: what waits, by ids; what was decided; what is known of sessions. The landed share's small calls: what an Op wants, what it makes. The landed share's small calls: what it counts, what is known of an id, of a session. What the landed share's blocks answers; the searches over Ops. -/
import Derived.Test.YtboejbjobjhajaaGreatDoorPp8
import Derived.Test.YtboejbjobjhajaaGreatDoorLk7
import Derived.Test.YtboejbjobjhajaaGreatDoorWnd
import Derived.Test.YtboejbjobjhajaaGreatDoorLw7
import Derived.Test.YtboejbjobjhajaaGreatDoorWp2
namespace Go.Proofs.YtboejbjobjhajaaGreatDoor
open Go.RowKit
structure Col18 (F : Nat → Prop) (q a b c : Nat) (Ft Fl G : Nat → Prop) (col : Nat → Nat) : Prop where
  q : col q = 1
  a : col a = 2
  b : col b = 3
  c : col c = 4
  t : ∀ k, Ft k → col k = 5
  l : ∀ k, Fl k → col k = 6
  g : ∀ k, G k → col k = 7
  all : ∀ k, col k ≠ 0 → F k
section
variable {F : Nat → Prop} {q a b c : Nat} {Ft Fl G : Nat → Prop} {col : Nat → Nat}
theorem Col18.fq (h : Col18 F q a b c Ft Fl G col) : F q := h.all q (by rw [h.q]; decide)
theorem Col18.fa (h : Col18 F q a b c Ft Fl G col) : F a := h.all a (by rw [h.a]; decide)
theorem Col18.fb (h : Col18 F q a b c Ft Fl G col) : F b := h.all b (by rw [h.b]; decide)
theorem Col18.fc (h : Col18 F q a b c Ft Fl G col) : F c := h.all c (by rw [h.c]; decide)
theorem Col18.ft (h : Col18 F q a b c Ft Fl G col) {k : Nat} (hk : Ft k) : F k := h.all k (by rw [h.t k hk]; decide)
theorem Col18.fl (h : Col18 F q a b c Ft Fl G col) {k : Nat} (hk : Fl k) : F k := h.all k (by rw [h.l k hk]; decide)
theorem Col18.fg (h : Col18 F q a b c Ft Fl G col) {k : Nat} (hk : G k) : F k := h.all k (by rw [h.g k hk]; decide)
theorem Col18.more (h : Col18 F q a b c Ft Fl G col) {B : Nat} (hF : ∀ k, F k → k < B) {Ft' Fl' G' : Nat → Prop} (ht : ∀ k, Ft' k → Ft k ∨ (B ≤ k ∧ ¬ Fl' k ∧ ¬ G' k)) (hl : ∀ k, Fl' k → Fl k ∨ (B ≤ k ∧ ¬ Ft' k ∧ ¬ G' k)) (hg : ∀ k, G' k → G k ∨ (B ≤ k ∧ ¬ Ft' k ∧ ¬ Fl' k)) :
    ∃ col', Col18 (fun k => F k ∨ (B ≤ k ∧ (Ft' k ∨ Fl' k ∨ G' k))) q a b c Ft' Fl' G' col' := by
  classical
  have old : ∀ k, F k → ¬ B ≤ k := fun k hk hb => by have := hF k hk; omega
  refine ⟨fun k => if B ≤ k then (if Ft' k then 5 else if Fl' k then 6 else if G' k then 7 else 0) else col k, ?_, ?_, ?_, ?_, fun k hk => ?_, fun k hk => ?_, fun k hk => ?_, fun k hk => ?_⟩
  · show (if B ≤ q then _ else col q) = 1
    rw [if_neg (old q h.fq)]; exact h.q
  · show (if B ≤ a then _ else col a) = 2
    rw [if_neg (old a h.fa)]; exact h.a
  · show (if B ≤ b then _ else col b) = 3
    rw [if_neg (old b h.fb)]; exact h.b
  · show (if B ≤ c then _ else col c) = 4
    rw [if_neg (old c h.fc)]; exact h.c
  · show (if B ≤ k then (if Ft' k then 5 else if Fl' k then 6 else if G' k then 7 else 0) else col k) = 5
    rcases ht k hk with e | e
    · rw [if_neg (old k (h.ft e))]; exact h.t k e
    · rw [if_pos e.1, if_pos hk]
  · show (if B ≤ k then (if Ft' k then 5 else if Fl' k then 6 else if G' k then 7 else 0) else col k) = 6
    rcases hl k hk with e | e
    · rw [if_neg (old k (h.fl e))]; exact h.l k e
    · rw [if_pos e.1, if_neg e.2.1, if_pos hk]
  · show (if B ≤ k then (if Ft' k then 5 else if Fl' k then 6 else if G' k then 7 else 0) else col k) = 7
    rcases hg k hk with e | e
    · rw [if_neg (old k (h.fg e))]; exact h.g k e
    · rw [if_pos e.1, if_neg e.2.1, if_neg e.2.2, if_pos hk]
  · have hk2 : (if B ≤ k then (if Ft' k then 5 else if Fl' k then 6 else if G' k then 7 else 0) else col k) ≠ 0 := hk
    by_cases e : B ≤ k
    · rw [if_pos e] at hk2
      refine Or.inr ⟨e, ?_⟩
      by_cases e1 : Ft' k
      · exact Or.inl e1
      · by_cases e2 : Fl' k
        · exact Or.inr (Or.inl e2)
        · by_cases e3 : G' k
          · exact Or.inr (Or.inr e3)
          · rw [if_neg e1, if_neg e2, if_neg e3] at hk2
            exact absurd rfl hk2
    · rw [if_neg e] at hk2
      exact Or.inl (h.all k hk2)
end

structure PtU18 (LT : Rep11) (LS : Rep17) (w : World) (q : Nat) (room z wt : Int) (t : Tq.Tr) (lk : Lk.St) (fw fd fs : Lit → Option Value) (F : Nat → Prop) (qt ql a b c : Nat) (Ft Fl G : Nat → Prop) : Prop where
  blk : Cb w q [dptr qt, .int .i64 room, .int .i64 z, dptr ql, .map (some a), .map (some b), .map (some c), .int .i64 wt] 90
  tr : LT w qt t Ft
  lo : LS w ql lk Fl
  mw : Mq w 2 a fw
  md : Mq w 2 b fd
  ms : Mq w 2 c fs
  col : ∃ col, Col18 F q a b c Ft Fl G col
  flt : ∀ k, F k → k < w.heap.size
def wv18 (p : Pt.Pr) (v : Value) : Value := .agg #[.int .i64 p.sess, v, .bool p.closes]
def sv18 (n : Nat) (c d : Bool) : Value := .agg #[.int .i64 (n : Int), .bool c, .bool d]
def sq18 (n : Nat) (c d : Bool) : Option Value := if n = 0 ∧ c = false ∧ d = false then none else some (sv18 n c d)
structure IsW18 (w : World) (ps : List Pt.Pr) (V : Int → Value) (G : Nat → Prop) (f : Lit → Option Value) : Prop where
  at_ : ∀ z, f (ikey z) = (ps.find? fun p => decide (p.id = z)).map fun p => wv18 p (V p.id)
  key : ∀ kl, (f kl).isSome = true → ∃ z, kl = ikey z
  ops : ∀ p ∈ ps, Ol w (V p.id) (Pt.own p)
  off : ∀ p ∈ ps, ∀ k, (V p.id).ownBlock = some k → Pt.own p ≠ [] → G k
structure IsD18 (dn : List Int) (f : Lit → Option Value) : Prop where
  at_ : ∀ z, f (ikey z) = if z ∈ dn then some (.agg #[]) else none
  key : ∀ kl, (f kl).isSome = true → ∃ z, kl = ikey z
structure IsE18 (ps : List Pt.Pr) (cl : List Int) (f : Lit → Option Value) : Prop where
  at_ : ∀ z, f (ikey z) = sq18 (Pt.asks ps z) (ps.any fun p => p.closes && decide (p.sess = z)) (decide (z ∈ cl))
  key : ∀ kl, (f kl).isSome = true → ∃ z, kl = ikey z
def LPt18 (LT : Rep11) (LS : Rep17) : Rep18 := fun w q s F => ∃ fw fd fs qt ql a b c Ft Fl G V, PtU18 LT LS w q s.t.room s.z (Pt.wanted s : Int) s.t s.lk fw fd fs F qt ql a b c Ft Fl G ∧ IsW18 w s.ps V G fw ∧ IsD18 s.dn fd ∧ IsE18 s.ps s.cl fs

theorem ol_keep18 {w w' : World} {v : Value} {os : List O} (h : Ol w v os) (hk : os ≠ [] → ∀ k, v.ownBlock = some k → k < w.heap.size → w'.heap[k]? = w.heap[k]?) : Ol w' v os := by
  obtain ⟨av, k, c, rfl, hj, hc, hn, hs⟩ := h
  refine ⟨av, k, c, rfl, hj, hc, hn, fun j o hj => ?_⟩
  obtain ⟨g, b, ha, hcell⟩ := hs j o hj
  have hb := hk (fun e => by rw [e] at hj; simp at hj) g (by rw [ha]; rfl) (World.block_lt_of_cell? w _ (hcell 0 _ rfl))
  exact ⟨g, b, ha, fun i u hu => (World.cell?_of_block hb).trans (hcell i u hu)⟩
section
variable {LT : Rep11} {LS : Rep17} {w w' : World} {q : Nat} {room z wt z' wt' : Int} {t t' : Tq.Tr} {lk lk' : Lk.St} {fw fd fs fw' fd' fs' : Lit → Option Value} {F : Nat → Prop} {qt ql a b c : Nat} {Ft Fl G Ft' Fl' G' : Nat → Prop} {ps : List Pt.Pr} {V : Int → Value}
theorem IsW18.keep (h : IsW18 w ps V G fw) (hk : ∀ k, G k → k < w.heap.size → w'.heap[k]? = w.heap[k]?) : IsW18 w' ps V G fw :=
  ⟨h.at_, h.key, fun p hp => ol_keep18 (h.ops p hp) fun hne k e hl => hk k (h.off p hp k e hne) hl, h.off⟩
theorem PtU18.keep (S : Specs11 LT) (L : Specs17 LS) (h : PtU18 LT LS w q room z wt t lk fw fd fs F qt ql a b c Ft Fl G) (hk : ∀ k, F k → w'.heap[k]? = w.heap[k]?) : PtU18 LT LS w' q room z wt t lk fw fd fs F qt ql a b c Ft Fl G := by
  obtain ⟨col, hc⟩ := h.col
  refine ⟨h.blk.keep (hk q hc.fq), S.keep h.tr (fun k e => hk k (hc.ft e)), L.keep h.lo (fun k e => hk k (hc.fl e)), h.mw.keep (hk a hc.fa), h.md.keep (hk b hc.fb), h.ms.keep (hk c hc.fc), ⟨col, hc⟩, fun k e => ?_⟩
  have h1 := h.flt k e
  have h2 := hk k e
  rw [Array.getElem?_eq_getElem h1] at h2
  exact (Array.getElem?_eq_some_iff.1 h2).1
theorem PtU18.below (S : Specs11 LT) (L : Specs17 LS) (h : PtU18 LT LS w q room z wt t lk fw fd fs F qt ql a b c Ft Fl G) (hb : Below w.heap.size w w') : PtU18 LT LS w' q room z wt t lk fw fd fs F qt ql a b c Ft Fl G := h.keep S L fun k hk => hb.block k (h.flt k hk)
theorem lpt_lt18 {s : Pt.St} {k : Nat} (h : LPt18 LT LS w q s F) (hk : F k) : k < w.heap.size := by
  obtain ⟨_, _, _, _, _, _, _, _, _, _, _, _, h, _⟩ := h
  exact h.flt k hk
theorem lpt_keep18 (S : Specs11 LT) (L : Specs17 LS) {s : Pt.St} (h : LPt18 LT LS w q s F) (hk : ∀ k, F k → w'.heap[k]? = w.heap[k]?) : LPt18 LT LS w' q s F := by
  obtain ⟨fw, fd, fs, qt, ql, a, b, c, Ft, Fl, G, V, h, h1, h2, h3⟩ := h
  obtain ⟨col, hc⟩ := h.col
  exact ⟨fw, fd, fs, qt, ql, a, b, c, Ft, Fl, G, V, h.keep S L hk, h1.keep (fun k e _ => hk k (hc.fg e)), h2, h3⟩
theorem PtU18.cell (S : Specs11 LT) (L : Specs17 LS) (h : PtU18 LT LS w q room z wt t lk fw fd fs F qt ql a b c Ft Fl G) (i : Nat) (u : Value) (he : [dptr qt, .int .i64 room, .int .i64 z, dptr ql, .map (some a), .map (some b), .map (some c), .int .i64 wt].set i u = [dptr qt, .int .i64 room, .int .i64 z', dptr ql, .map (some a), .map (some b), .map (some c), .int .i64 wt']) :
    PtU18 LT LS (w.setCell ⟨q, i, none⟩ u) q room z' wt' t lk fw fd fs F qt ql a b c Ft Fl G ∧ Moved w (w.setCell ⟨q, i, none⟩ u) F F ∧ ∀ k, k ≠ q → (w.setCell ⟨q, i, none⟩ u).heap[k]? = w.heap[k]? := by
  obtain ⟨col, hc⟩ := h.col
  have hg := grownBy_setCell w ⟨q, i, none⟩ u
  have hs : (w.setCell ⟨q, i, none⟩ u).heap.size = w.heap.size := by simp [World.setCell]
  have ho : ∀ k, k ≠ q → (w.setCell ⟨q, i, none⟩ u).heap[k]? = w.heap[k]? := fun k hk => by
    by_cases hl : k < w.heap.size
    · exact hg.block k hl (by simpa using hk)
    · rw [Array.getElem?_eq_none (by omega), Array.getElem?_eq_none (by omega)]
  have hne : ∀ k, col k ≠ 1 → k ≠ q := fun k e e2 => e (by rw [e2]; exact hc.q)
  refine ⟨⟨he ▸ h.blk.set i u, S.keep h.tr (fun k e => ho k (hne k (by rw [hc.t k e]; decide))), L.keep h.lo (fun k e => ho k (hne k (by rw [hc.l k e]; decide))), h.mw.keep (ho a (hne a (by rw [hc.a]; decide))), h.md.keep (ho b (hne b (by rw [hc.b]; decide))), h.ms.keep (ho c (hne c (by rw [hc.c]; decide))), ⟨col, hc⟩, fun k e => by rw [hs]; exact h.flt k e⟩, ⟨hg.os, hg.tape, hg.output, hg.size, fun k _ hF => ho k (fun e => hF (e ▸ hc.fq)), fun _ e => Or.inl e⟩, ho⟩
theorem PtU18.turn_w (S : Specs11 LT) (L : Specs17 LS) (h : PtU18 LT LS w q room z wt t lk fw fd fs F qt ql a b c Ft Fl G) (ht : w.mapTurned w' a) (hm : Mq w' 2 a fw') :
    PtU18 LT LS w' q room z wt t lk fw' fd fs F qt ql a b c Ft Fl G ∧ Moved w w' F F ∧ ∀ k, k < w.heap.size → k ≠ a → w'.heap[k]? = w.heap[k]? := by
  obtain ⟨col, hc⟩ := h.col
  have ho : ∀ k, k < w.heap.size → k ≠ a → w'.heap[k]? = w.heap[k]? := fun k hk hne => turned_keep ht hk hne
  have hne : ∀ k, col k ≠ 2 → k ≠ a := fun k e e2 => e (by rw [e2]; exact hc.a)
  have g : ∀ k, F k → col k ≠ 2 → w'.heap[k]? = w.heap[k]? := fun k hF e => ho k (h.flt k hF) (hne k e)
  exact ⟨⟨h.blk.keep (g q hc.fq (by rw [hc.q]; decide)), S.keep h.tr (fun k e => g k (hc.ft e) (by rw [hc.t k e]; decide)), L.keep h.lo (fun k e => g k (hc.fl e) (by rw [hc.l k e]; decide)), hm, h.md.keep (g b hc.fb (by rw [hc.b]; decide)), h.ms.keep (g c hc.fc (by rw [hc.c]; decide)), ⟨col, hc⟩, fun k e => Nat.lt_of_lt_of_le (h.flt k e) ht.grown.size⟩, Moved.turned ht hc.fa, ho⟩
theorem PtU18.turn_d (S : Specs11 LT) (L : Specs17 LS) (h : PtU18 LT LS w q room z wt t lk fw fd fs F qt ql a b c Ft Fl G) (ht : w.mapTurned w' b) (hm : Mq w' 2 b fd') :
    PtU18 LT LS w' q room z wt t lk fw fd' fs F qt ql a b c Ft Fl G ∧ Moved w w' F F ∧ ∀ k, k < w.heap.size → k ≠ b → w'.heap[k]? = w.heap[k]? := by
  obtain ⟨col, hc⟩ := h.col
  have ho : ∀ k, k < w.heap.size → k ≠ b → w'.heap[k]? = w.heap[k]? := fun k hk hne => turned_keep ht hk hne
  have hne : ∀ k, col k ≠ 3 → k ≠ b := fun k e e2 => e (by rw [e2]; exact hc.b)
  have g : ∀ k, F k → col k ≠ 3 → w'.heap[k]? = w.heap[k]? := fun k hF e => ho k (h.flt k hF) (hne k e)
  exact ⟨⟨h.blk.keep (g q hc.fq (by rw [hc.q]; decide)), S.keep h.tr (fun k e => g k (hc.ft e) (by rw [hc.t k e]; decide)), L.keep h.lo (fun k e => g k (hc.fl e) (by rw [hc.l k e]; decide)), h.mw.keep (g a hc.fa (by rw [hc.a]; decide)), hm, h.ms.keep (g c hc.fc (by rw [hc.c]; decide)), ⟨col, hc⟩, fun k e => Nat.lt_of_lt_of_le (h.flt k e) ht.grown.size⟩, Moved.turned ht hc.fb, ho⟩
theorem PtU18.turn_s (S : Specs11 LT) (L : Specs17 LS) (h : PtU18 LT LS w q room z wt t lk fw fd fs F qt ql a b c Ft Fl G) (ht : w.mapTurned w' c) (hm : Mq w' 2 c fs') :
    PtU18 LT LS w' q room z wt t lk fw fd fs' F qt ql a b c Ft Fl G ∧ Moved w w' F F ∧ ∀ k, k < w.heap.size → k ≠ c → w'.heap[k]? = w.heap[k]? := by
  obtain ⟨col, hc⟩ := h.col
  have ho : ∀ k, k < w.heap.size → k ≠ c → w'.heap[k]? = w.heap[k]? := fun k hk hne => turned_keep ht hk hne
  have hne : ∀ k, col k ≠ 4 → k ≠ c := fun k e e2 => e (by rw [e2]; exact hc.c)
  have g : ∀ k, F k → col k ≠ 4 → w'.heap[k]? = w.heap[k]? := fun k hF e => ho k (h.flt k hF) (hne k e)
  exact ⟨⟨h.blk.keep (g q hc.fq (by rw [hc.q]; decide)), S.keep h.tr (fun k e => g k (hc.ft e) (by rw [hc.t k e]; decide)), L.keep h.lo (fun k e => g k (hc.fl e) (by rw [hc.l k e]; decide)), h.mw.keep (g a hc.fa (by rw [hc.a]; decide)), h.md.keep (g b hc.fb (by rw [hc.b]; decide)), hm, ⟨col, hc⟩, fun k e => Nat.lt_of_lt_of_le (h.flt k e) ht.grown.size⟩, Moved.turned ht hc.fc, ho⟩
theorem PtU18.tree (S : Specs11 LT) (L : Specs17 LS) (h : PtU18 LT LS w q room z wt t lk fw fd fs F qt ql a b c Ft Fl G) (hl : LT w' qt t' Ft') (hm : Moved w w' Ft Ft') :
    ∃ F', PtU18 LT LS w' q room z wt t' lk fw fd fs F' qt ql a b c Ft' Fl G ∧ Moved w w' F F' ∧ (∀ k, F k → ¬ Ft k → w'.heap[k]? = w.heap[k]?) ∧ (∀ k, Ft' k → F' k) ∧ (∀ k, F' k → F k ∨ Ft' k) := by
  obtain ⟨col, hc⟩ := h.col
  obtain ⟨col', hc'⟩ := hc.more (B := w.heap.size) h.flt (Ft' := Ft') (Fl' := Fl) (G' := G) (fun k hk => by
    rcases hm.sub k hk with e | e
    · exact Or.inl e
    · exact Or.inr ⟨e, fun e2 => by have := h.flt k (hc.fl e2); omega, fun e2 => by have := h.flt k (hc.fg e2); omega⟩) (fun k hk => Or.inl hk) (fun k hk => Or.inl hk)
  have g : ∀ k, F k → ¬ Ft k → w'.heap[k]? = w.heap[k]? := fun k hF e => hm.block k (h.flt k hF) e
  have n : ∀ k, col k ≠ 5 → ¬ Ft k := fun k e e2 => e (hc.t k e2)
  refine ⟨_, ⟨h.blk.keep (g q hc.fq (n q (by rw [hc.q]; decide))), hl, L.keep h.lo (fun k e => g k (hc.fl e) (n k (by rw [hc.l k e]; decide))), h.mw.keep (g a hc.fa (n a (by rw [hc.a]; decide))), h.md.keep (g b hc.fb (n b (by rw [hc.b]; decide))), h.ms.keep (g c hc.fc (n c (by rw [hc.c]; decide))), ⟨col', hc'⟩, fun k e => ?_⟩, ⟨hm.os, hm.tape, hm.output, hm.size, fun k hk hF => hm.block k hk (fun e => hF (hc.ft e)), fun k e => ?_⟩, g, fun k e => ?_, fun k e => ?_⟩
  · rcases e with e | ⟨_, e | e | e⟩
    · exact Nat.lt_of_lt_of_le (h.flt k e) hm.size
    · exact S.lt hl e
    · exact Nat.lt_of_lt_of_le (h.flt k (hc.fl e)) hm.size
    · exact Nat.lt_of_lt_of_le (h.flt k (hc.fg e)) hm.size
  · rcases e with e | ⟨e, _⟩
    · exact Or.inl e
    · exact Or.inr e
  · rcases hm.sub k e with e2 | e2
    · exact Or.inl (hc.ft e2)
    · exact Or.inr ⟨e2, Or.inl e⟩
  · rcases e with e | ⟨_, e | e | e⟩
    · exact Or.inl e
    · exact Or.inr e
    · exact Or.inl (hc.fl e)
    · exact Or.inl (hc.fg e)
theorem PtU18.lock (S : Specs11 LT) (L : Specs17 LS) (h : PtU18 LT LS w q room z wt t lk fw fd fs F qt ql a b c Ft Fl G) (hl : LS w' ql lk' Fl') (hm : Moved w w' Fl Fl') :
    ∃ F', PtU18 LT LS w' q room z wt t lk' fw fd fs F' qt ql a b c Ft Fl' G ∧ Moved w w' F F' ∧ (∀ k, F k → ¬ Fl k → w'.heap[k]? = w.heap[k]?) := by
  obtain ⟨col, hc⟩ := h.col
  obtain ⟨col', hc'⟩ := hc.more (B := w.heap.size) h.flt (Ft' := Ft) (Fl' := Fl') (G' := G) (fun k hk => Or.inl hk) (fun k hk => by
    rcases hm.sub k hk with e | e
    · exact Or.inl e
    · exact Or.inr ⟨e, fun e2 => by have := h.flt k (hc.ft e2); omega, fun e2 => by have := h.flt k (hc.fg e2); omega⟩) (fun k hk => Or.inl hk)
  have g : ∀ k, F k → ¬ Fl k → w'.heap[k]? = w.heap[k]? := fun k hF e => hm.block k (h.flt k hF) e
  have n : ∀ k, col k ≠ 6 → ¬ Fl k := fun k e e2 => e (hc.l k e2)
  refine ⟨_, ⟨h.blk.keep (g q hc.fq (n q (by rw [hc.q]; decide))), S.keep h.tr (fun k e => g k (hc.ft e) (n k (by rw [hc.t k e]; decide))), hl, h.mw.keep (g a hc.fa (n a (by rw [hc.a]; decide))), h.md.keep (g b hc.fb (n b (by rw [hc.b]; decide))), h.ms.keep (g c hc.fc (n c (by rw [hc.c]; decide))), ⟨col', hc'⟩, fun k e => ?_⟩, ⟨hm.os, hm.tape, hm.output, hm.size, fun k hk hF => hm.block k hk (fun e => hF (hc.fl e)), fun k e => ?_⟩, g⟩
  · rcases e with e | ⟨_, e | e | e⟩
    · exact Nat.lt_of_lt_of_le (h.flt k e) hm.size
    · exact Nat.lt_of_lt_of_le (h.flt k (hc.ft e)) hm.size
    · exact L.lt hl e
    · exact Nat.lt_of_lt_of_le (h.flt k (hc.fg e)) hm.size
  · rcases e with e | ⟨e, _⟩
    · exact Or.inl e
    · exact Or.inr e
theorem PtU18.held (h : PtU18 LT LS w q room z wt t lk fw fd fs F qt ql a b c Ft Fl G) {H : Nat → Prop} (hH : ∀ k, H k → k < w.heap.size ∧ ¬ F k) :
    PtU18 LT LS w q room z wt t lk fw fd fs (fun k => F k ∨ H k) qt ql a b c Ft Fl (fun k => G k ∨ H k) := by
  classical
  obtain ⟨col, hc⟩ := h.col
  have n : ∀ k, F k → ¬ H k := fun k e e2 => (hH k e2).2 e
  refine ⟨h.blk, h.tr, h.lo, h.mw, h.md, h.ms, ⟨fun k => if H k then 7 else col k, ?_, ?_, ?_, ?_, fun k e => ?_, fun k e => ?_, fun k e => ?_, fun k e => ?_⟩, fun k e => ?_⟩
  · show (if H q then 7 else col q) = 1; rw [if_neg (n q hc.fq)]; exact hc.q
  · show (if H a then 7 else col a) = 2; rw [if_neg (n a hc.fa)]; exact hc.a
  · show (if H b then 7 else col b) = 3; rw [if_neg (n b hc.fb)]; exact hc.b
  · show (if H c then 7 else col c) = 4; rw [if_neg (n c hc.fc)]; exact hc.c
  · show (if H k then 7 else col k) = 5; rw [if_neg (n k (hc.ft e))]; exact hc.t k e
  · show (if H k then 7 else col k) = 6; rw [if_neg (n k (hc.fl e))]; exact hc.l k e
  · show (if H k then 7 else col k) = 7
    by_cases e2 : H k
    · rw [if_pos e2]
    · rw [if_neg e2]
      exact hc.g k (e.resolve_right e2)
  · have e1 : (if H k then 7 else col k) ≠ 0 := e
    by_cases e2 : H k
    · exact Or.inr e2
    · rw [if_neg e2] at e1
      exact Or.inl (hc.all k e1)
  · rcases e with e | e
    · exact h.flt k e
    · exact (hH k e).1
end
end Go.Proofs.YtboejbjobjhajaaGreatDoor
namespace Go.Proofs.YtboejbjobjhajaaGreatDoor
open Go.RowKit
set_option maxRecDepth 20000 in
set_option maxHeartbeats 1000000 in
theorem creates_any18 (o : O) (w : World) :
    Calls Tryz.prog 92 #[ov o] w fun e w' => e = .returned (.bool (Pt.creates o)) ∧ Below w.heap.size w w' := by
  have HBX : Hid (Box5 (w.alloc (.cells #[.int .i64 o.kind, .string o.path, .string o.data, .int .i64 o.ver, .int .i64 o.flags] 30)) w.heap.size o) := Box5.made w o _
  have HB0 : Hid (Below w.heap.size w (w.alloc (.cells #[.int .i64 o.kind, .string o.path, .string o.data, .int .i64 o.ver, .int .i64 o.flags] 30))) := (Below.refl _ w).alloc (Nat.le_refl _) _
  obtain ⟨K, p, d, V, F⟩ := o
  simp only [] at HBX HB0 ⊢
  unfold ov
  go_enter Tryz.func92, Tryz.ntmps92
  go_upto_region 1 with fail
  generalize w.alloc (.cells #[.int .i64 K, .string p, .string d, .int .i64 V, .int .i64 F] 30) = w1 at *
  obtain ⟨c0, c1, c2, c3, c4⟩ := HBX.out
  simp only [] at c0 c1 c2 c3 c4
  clear c1 c2 c3 c4 HBX
  by_cases hk : K = 1
  · subst hk
    go_wp2
    go_ret
    exact ⟨rfl, HB0.out⟩
  · go_wp2
    go_ret
    exact ⟨by simp [Pt.creates, hk], HB0.out⟩
set_option maxRecDepth 20000 in
set_option maxHeartbeats 2000000 in
theorem wants_any18 (o : O) (w : World) (hS : Pa.Std w) (hp : o.path.size ≤ maxLen) (hf : 0 ≤ o.flags ∧ o.flags ≤ 3) (hu : 2 ≤ o.flags → Lk.under o.path = true) :
    Calls Tryz.prog 50 #[ov o] w fun e w' => ∃ v, e = .returned v ∧ w'.ownsRow w.heap.size 9 1 v (Pt.wants o).length (sc (Pt.wants o)) ∧ Below w.heap.size w w' := by
  have HBX : Hid (Box5 (w.alloc (.cells #[.int .i64 o.kind, .string o.path, .string o.data, .int .i64 o.ver, .int .i64 o.flags] 30)) w.heap.size o) := Box5.made w o _
  have HB0 : Hid (Below w.heap.size w (w.alloc (.cells #[.int .i64 o.kind, .string o.path, .string o.data, .int .i64 o.ver, .int .i64 o.flags] 30)) ∧ Pa.Std w ∧ o.path.size ≤ maxLen ∧ (2 ≤ o.flags → Lk.under o.path = true) ∧ (w.alloc (.cells #[.int .i64 o.kind, .string o.path, .string o.data, .int .i64 o.ver, .int .i64 o.flags] 30)).heap.size = w.heap.size + 1) := ⟨(Below.refl _ w).alloc (Nat.le_refl _) _, hS, hp, hu, World.size_alloc _ _⟩
  have hff : o.flags = 0 ∨ o.flags = 1 ∨ o.flags = 2 ∨ o.flags = 3 := by omega
  clear hS hp hf hu
  obtain ⟨K, p, d, V, F⟩ := o
  simp only [] at HBX HB0 hff ⊢
  unfold ov
  go_enter Tryz.func50, Tryz.ntmps50
  go_upto_region 1 with fail
  generalize w.alloc (.cells #[.int .i64 K, .string p, .string d, .int .i64 V, .int .i64 F] 30) = w1 at *
  obtain ⟨c0, c1, c2, c3, c4⟩ := HBX.out
  simp only [] at c0 c1 c2 c3 c4
  clear c0 c2 c3 HBX
  obtain ⟨g1, hg1⟩ : ∃ g, g = w1.heap.size := ⟨_, rfl⟩
  have H2 : Hid (Below w.heap.size w (w1.alloc (.cells #[.string p] 9)) ∧ (w1.alloc (.cells #[.string p] 9)).ownsRow w.heap.size 9 1 (.slice (some ⟨g1, 0, none⟩) 1 1) 1 (sc [p])) := by
    refine ⟨HB0.out.1.alloc (by have := HB0.out.2.2.2.2; omega) _, ?_⟩
    rw [hg1]
    exact World.ownsRow_lit w1 #[.string p] 1 (by have := HB0.out.2.2.2.2; omega) (by decide) rfl
  have d4 : (w1.alloc (.cells #[.string p] 9)).cell? ⟨w.heap.size, 4, none⟩ = some (.int .i64 F) := Below.kept ((Below.refl _ w1).alloc (Nat.le_refl _) _) c4
  have d1 : (w1.alloc (.cells #[.string p] 9)).cell? ⟨w.heap.size, 1, none⟩ = some (.string p) := Below.kept ((Below.refl _ w1).alloc (Nat.le_refl _) _) c1
  go_upto_region 2 with fail
  rw [← hg1]
  clear c1 c4 hg1
  generalize w1.alloc (.cells #[.string p] 9) = w2 at *
  rcases hff with rfl | rfl | rfl | rfl
  · have hbit : (bits BinOp.and IntKind.i64 0 2 != 0) = false := by decide
    go_wp2
    go_ret
    exact ⟨_, rfl, H2.out.2, H2.out.1⟩
  · have hbit : (bits BinOp.and IntKind.i64 1 2 != 0) = false := by decide
    go_wp2
    go_ret
    exact ⟨_, rfl, H2.out.2, H2.out.1⟩
  · have hbit : (bits BinOp.and IntKind.i64 2 2 != 0) = true := by decide
    go_wp2_with fail
    refine (parent_any17 p w2 (HB0.out.2.1.below H2.out.1) HB0.out.2.2.1).mono ?_
    rintro e w3 ⟨rfl, hb⟩
    have hun := HB0.out.2.2.2.1 (by decide)
    have hup : Lk.upN p = Lk.up p := by unfold Lk.upN; rw [hun, if_pos rfl]
    rw [hup]
    have H3 : Hid (Below w.heap.size w w3 ∧ w3.ownsRow w.heap.size 9 1 (.slice (some ⟨g1, 0, none⟩) 1 1) 1 (sc [p])) := ⟨H2.out.1.trans (hb.mono H2.out.1.size), row_stays H2.out.2 (fun k hk => hb.block k (H2.out.2.lt k hk).2)⟩
    clear hb hun hup d1 d4
    have H4 : Hid (Below w.heap.size w (w3.alloc (.cells #[.string (Lk.up p)] 9)) ∧ (w3.alloc (.cells #[.string (Lk.up p)] 9)).ownsRow w.heap.size 9 1 (.slice (some ⟨g1, 0, none⟩) 1 1) 1 (sc [p]) ∧ Src (w3.alloc (.cells #[.string (Lk.up p)] 9)) (.slice (some ⟨w3.heap.size, 0, none⟩) 1 1) [Lk.up p]) := by
      have hba := (Below.refl _ w3).alloc (Nat.le_refl _) (.cells #[.string (Lk.up p)] 9)
      exact ⟨H3.out.1.trans (hba.mono H3.out.1.size), row_stays H3.out.2 (fun k hk => hba.block k (H3.out.2.lt k hk).2), Src.one w3 _ _⟩
    go_upto_region 4 with fail
    go_wp2_with (at_builtin; refine append_strs rfl _ _ rfl w.heap.size (.slice (some ⟨g1, 0, none⟩) 1 1) (.slice (some ⟨w3.heap.size, 0, none⟩) 1 1) [p] [Lk.up p] (w3.alloc (.cells #[.string (Lk.up p)] 9)) rfl rfl H4.out.2.1 H4.out.1.size H4.out.2.2 (by simp) ?_)
    intro v' w4 hrow hb4
    have H5 : Hid (w4.ownsRow w.heap.size 9 1 v' 2 (sc [p, Lk.up p]) ∧ Below w.heap.size w w4) := ⟨hrow, H4.out.1.trans hb4⟩
    clear hrow hb4
    go_wp2
    go_ret
    exact ⟨_, rfl, H5.out.1, H5.out.2⟩
  · have hbit : (bits BinOp.and IntKind.i64 3 2 != 0) = true := by decide
    go_wp2_with fail
    refine (parent_any17 p w2 (HB0.out.2.1.below H2.out.1) HB0.out.2.2.1).mono ?_
    rintro e w3 ⟨rfl, hb⟩
    have hun := HB0.out.2.2.2.1 (by decide)
    have hup : Lk.upN p = Lk.up p := by unfold Lk.upN; rw [hun, if_pos rfl]
    rw [hup]
    have H3 : Hid (Below w.heap.size w w3 ∧ w3.ownsRow w.heap.size 9 1 (.slice (some ⟨g1, 0, none⟩) 1 1) 1 (sc [p])) := ⟨H2.out.1.trans (hb.mono H2.out.1.size), row_stays H2.out.2 (fun k hk => hb.block k (H2.out.2.lt k hk).2)⟩
    clear hb hun hup d1 d4
    have H4 : Hid (Below w.heap.size w (w3.alloc (.cells #[.string (Lk.up p)] 9)) ∧ (w3.alloc (.cells #[.string (Lk.up p)] 9)).ownsRow w.heap.size 9 1 (.slice (some ⟨g1, 0, none⟩) 1 1) 1 (sc [p]) ∧ Src (w3.alloc (.cells #[.string (Lk.up p)] 9)) (.slice (some ⟨w3.heap.size, 0, none⟩) 1 1) [Lk.up p]) := by
      have hba := (Below.refl _ w3).alloc (Nat.le_refl _) (.cells #[.string (Lk.up p)] 9)
      exact ⟨H3.out.1.trans (hba.mono H3.out.1.size), row_stays H3.out.2 (fun k hk => hba.block k (H3.out.2.lt k hk).2), Src.one w3 _ _⟩
    go_upto_region 4 with fail
    go_wp2_with (at_builtin; refine append_strs rfl _ _ rfl w.heap.size (.slice (some ⟨g1, 0, none⟩) 1 1) (.slice (some ⟨w3.heap.size, 0, none⟩) 1 1) [p] [Lk.up p] (w3.alloc (.cells #[.string (Lk.up p)] 9)) rfl rfl H4.out.2.1 H4.out.1.size H4.out.2.2 (by simp) ?_)
    intro v' w4 hrow hb4
    have H5 : Hid (w4.ownsRow w.heap.size 9 1 v' 2 (sc [p, Lk.up p]) ∧ Below w.heap.size w w4) := ⟨hrow, H4.out.1.trans hb4⟩
    clear hrow hb4
    go_wp2
    go_ret
    exact ⟨_, rfl, H5.out.1, H5.out.2⟩
theorem ol_at18 {w : World} {av : Option Addr} {k c j : Nat} {os : List O} {o : O} (h : Ol w (.slice av k c) os) (ho : os[j]? = some o) : ∃ g b, av = some ⟨g, b, none⟩ ∧ w.cell? ⟨g, b + j * 5, none⟩ = some (.int .i64 o.kind) ∧ w.cell? ⟨g, b + j * 5 + 1, none⟩ = some (.string o.path) ∧ w.cell? ⟨g, b + j * 5 + 2, none⟩ = some (.string o.data) ∧ w.cell? ⟨g, b + j * 5 + 3, none⟩ = some (.int .i64 o.ver) ∧ w.cell? ⟨g, b + j * 5 + 4, none⟩ = some (.int .i64 o.flags) := by
  obtain ⟨av', k', c', e, hk, hc, hn, hs⟩ := h
  obtain ⟨rfl, rfl, rfl⟩ := Value.slice.inj e
  obtain ⟨g, b, ha, hcell⟩ := hs j o ho
  refine ⟨g, b, ha, ?_, ?_, ?_, ?_, ?_⟩
  · exact hcell 0 _ rfl
  · exact hcell 1 _ rfl
  · exact hcell 2 _ rfl
  · exact hcell 3 _ rfl
  · exact hcell 4 _ rfl
set_option maxRecDepth 20000 in
set_option maxHeartbeats 4000000 in
theorem made_any18 (v : Value) (os : List O) (w : World) (hv : Ol w v os) (hl : os.length ≤ 1000) :
    Calls Tryz.prog 93 #[v] w fun e w' => e = .returned (.int .i64 (Pt.made os : Int)) ∧ Below w.heap.size w w' := by
  have hv2 := hv
  obtain ⟨av, N, c, rfl, hN, _⟩ := hv2
  have H0 : Hid (N = os.length ∧ Ol w (.slice av N c) os) := ⟨hN, hv⟩
  have hNm : N ≤ 1000 := by omega
  clear hN hv hl
  go_enter Tryz.func93, Tryz.ntmps93
  go_wp2
  go_loopw [3, 8] (fun n i wx => ∃ k : Nat, k ≤ N ∧ i = .int .i64 (k : Int) ∧ n = .int .i64 (Pt.made (os.take k) : Int) ∧ Below w.heap.size w wx) (fun _ i _ => N - (intOf i).toNat)
  case atStart => exact ⟨0, Nat.zero_le _, rfl, rfl, Below.refl _ _⟩
  case round =>
    obtain ⟨k, hk, rfl, rfl, hb⟩ := hrel
    obtain ⟨M, hM⟩ : ∃ M, M = Pt.made (os.take k) := ⟨_, rfl⟩
    have HW : Hid (Below w.heap.size w wr ∧ M = Pt.made (os.take k) ∧ M ≤ 1000) := ⟨hb, hM, by rw [hM]; exact Nat.le_trans List.countP_le_length (by rw [List.length_take]; omega)⟩
    rw [← hM]
    have hM1 := HW.out.2.2
    clear hb hM
    by_cases hlt : k < N
    · have hlt' : (k : Int) < (N : Int) := by omega
      have hk0 : (0 : Int) ≤ (k : Int) := by omega
      have hwk : IntKind.wrap .i64 ((k : Int) + 1) = (k : Int) + 1 := by rw [IntKind.wrap_i64]; omega
      have hwm : IntKind.wrap .i64 ((M : Int) + 1) = (M : Int) + 1 := by rw [IntKind.wrap_i64]; omega
      obtain ⟨o, ho⟩ : ∃ o, os[k]? = some o := ⟨os[k]'(by rw [← H0.out.1]; exact hlt), List.getElem?_eq_getElem _⟩
      have HX : Hid (Pt.made (os.take (k + 1)) = M + if Pt.creates o = true then 1 else 0) := by
        have e : Pt.made (os.take (k + 1)) = M + if Pt.creates o = true then 1 else 0 := by
          rw [HW.out.2.1, List.take_add_one, ho]
          unfold Pt.made
          rw [List.countP_append]
          simp [List.countP_cons]
        exact e
      obtain ⟨g, b, rfl, y0, y1, y2, y3, y4⟩ := ol_at18 (ol_keep18 H0.out.2 (fun _ k hk hl => HW.out.1.block k hl)) ho
      clear ho
      obtain ⟨q1, hq1⟩ : ∃ z, z = wr.heap.size := ⟨_, rfl⟩
      have HB1 : Hid (Box5 (wr.alloc (.cells #[.int .i64 o.kind, .string o.path, .string o.data, .int .i64 o.ver, .int .i64 o.flags] 30)) q1 o ∧ Below w.heap.size w (wr.alloc (.cells #[.int .i64 o.kind, .string o.path, .string o.data, .int .i64 o.ver, .int .i64 o.flags] 30))) := ⟨by rw [hq1]; exact Box5.made wr o _, HW.out.1.alloc HW.out.1.size _⟩
      go_upto_region 5 with fail
      rw [← hq1]
      clear y0 y1 y2 y3 y4 hq1
      generalize wr.alloc (.cells #[.int .i64 o.kind, .string o.path, .string o.data, .int .i64 o.ver, .int .i64 o.flags] 30) = w1 at *
      obtain ⟨c0, c1, c2, c3, c4⟩ := HB1.out.1
      go_wp2_with fail
      refine (creates_any18 o w1).mono ?_
      rintro e w2 ⟨rfl, hb⟩
      have H2 : Hid (Below w.heap.size w w2) := HB1.out.2.trans (hb.mono HB1.out.2.size)
      clear hb c0 c1 c2 c3 c4
      cases hc : Pt.creates o with
      | true =>
        have H3 : Hid (Pt.made (os.take (k + 1)) = M + 1) := by
          have e := HX.out
          rw [hc] at e
          exact e
        clear hc
        go_wp2
        go_roundw
        case rel => exact ⟨k + 1, by omega, by go_num, by rw [H3.out]; go_num, H2.out⟩
        case measure => simp [intOf]; omega
      | false =>
        have H3 : Hid (Pt.made (os.take (k + 1)) = M) := by
          have e := HX.out
          rw [hc] at e
          exact e
        clear hc
        go_wp2
        go_roundw
        case rel => exact ⟨k + 1, by omega, by go_num, by rw [H3.out], H2.out⟩
        case measure => simp [intOf]; omega
    · have hlt' : ¬ (k : Int) < (N : Int) := by omega
      have HR : Hid (M = Pt.made os) := by
        have e := HW.out.2.1
        rw [List.take_of_length_le (by rw [← H0.out.1]; omega)] at e
        exact e
      go_wp2
      go_ret
      exact ⟨by rw [HR.out]; rfl, HW.out.1⟩
end Go.Proofs.YtboejbjobjhajaaGreatDoor
namespace Go.Proofs.YtboejbjobjhajaaGreatDoor
open Go.RowKit
theorem zeroW18 (w : World) : (zeroValue 94).run Tryz.prog w = .ok (.agg #[.int .i64 0, .slice none 0 0, .bool false]) w := by kernel_rfl
theorem zeroE18 (w : World) : (zeroValue 109).run Tryz.prog w = .ok (sv18 0 false false) w := by kernel_rfl
theorem zeroD18 (w : World) : (zeroValue 103).run Tryz.prog w = .ok (.agg #[]) w := by kernel_rfl
theorem fieldE18 (n : Nat) (c d : Bool) (w : World) : (Instr.field 109 (sv18 n c d) 0).run Tryz.prog w = .ok (.int .i64 (n : Int)) w ∧ (Instr.field 109 (sv18 n c d) 2).run Tryz.prog w = .ok (.bool d) w := ⟨by kernel_rfl, by kernel_rfl⟩
theorem sq_get18 (n : Nat) (c d : Bool) : (sq18 n c d).getD (sv18 0 false false) = sv18 n c d := by
  unfold sq18
  split
  · rename_i h
    obtain ⟨rfl, rfl, rfl⟩ := h
    rfl
  · rfl
section
variable {LT : Rep11} {LS : Rep17} {w : World} {q : Nat} {room z wt : Int} {t : Tq.Tr} {lk : Lk.St} {fw fd fs : Lit → Option Value} {F : Nat → Prop} {qt ql a b c : Nat} {Ft Fl G : Nat → Prop} {ps : List Pt.Pr} {dn cl : List Int} {V : Int → Value}
theorem PtU18.c0 (h : PtU18 LT LS w q room z wt t lk fw fd fs F qt ql a b c Ft Fl G) : w.cell? ⟨q, 0, none⟩ = some (dptr qt) := h.blk.cell 0
theorem PtU18.c1 (h : PtU18 LT LS w q room z wt t lk fw fd fs F qt ql a b c Ft Fl G) : w.cell? ⟨q, 1, none⟩ = some (.int .i64 room) := h.blk.cell 1
theorem PtU18.c2 (h : PtU18 LT LS w q room z wt t lk fw fd fs F qt ql a b c Ft Fl G) : w.cell? ⟨q, 2, none⟩ = some (.int .i64 z) := h.blk.cell 2
theorem PtU18.c3 (h : PtU18 LT LS w q room z wt t lk fw fd fs F qt ql a b c Ft Fl G) : w.cell? ⟨q, 3, none⟩ = some (dptr ql) := h.blk.cell 3
theorem PtU18.c4 (h : PtU18 LT LS w q room z wt t lk fw fd fs F qt ql a b c Ft Fl G) : w.cell? ⟨q, 4, none⟩ = some (.map (some a)) := h.blk.cell 4
theorem PtU18.c5 (h : PtU18 LT LS w q room z wt t lk fw fd fs F qt ql a b c Ft Fl G) : w.cell? ⟨q, 5, none⟩ = some (.map (some b)) := h.blk.cell 5
theorem PtU18.c6 (h : PtU18 LT LS w q room z wt t lk fw fd fs F qt ql a b c Ft Fl G) : w.cell? ⟨q, 6, none⟩ = some (.map (some c)) := h.blk.cell 6
theorem PtU18.c7 (h : PtU18 LT LS w q room z wt t lk fw fd fs F qt ql a b c Ft Fl G) : w.cell? ⟨q, 7, none⟩ = some (.int .i64 wt) := h.blk.cell 7

set_option maxRecDepth 20000 in
set_option maxHeartbeats 1000000 in
theorem zxid_any18 (h : PtU18 LT LS w q room z wt t lk fw fd fs F qt ql a b c Ft Fl G) :
    Calls Tryz.prog 35 #[dptr q] w fun e w' => e = .returned (.int .i64 z) ∧ w' = w := by
  have c2 := h.c2
  clear h
  go_enter Tryz.func35, Tryz.ntmps35
  go_wp2
  go_ret
  exact ⟨rfl, rfl⟩
set_option maxRecDepth 20000 in
set_option maxHeartbeats 1000000 in
theorem wanted_any18 (h : PtU18 LT LS w q room z wt t lk fw fd fs F qt ql a b c Ft Fl G) :
    Calls Tryz.prog 13 #[dptr q] w fun e w' => e = .returned (.int .i64 wt) ∧ w' = w := by
  have c7 := h.c7
  clear h
  go_enter Tryz.func13, Tryz.ntmps13
  go_wp2
  go_ret
  exact ⟨rfl, rfl⟩
set_option maxRecDepth 20000 in
set_option maxHeartbeats 1000000 in
theorem locks_any18 (L : Specs17 LS) {m : Nat} (h : PtU18 LT LS w q room z wt t lk fw fd fs F qt ql a b c Ft Fl G) (hf : Lk.Fine m lk) (hm : m ≤ 1000000) :
    Calls Tryz.prog 14 #[dptr q] w fun e w' => e = .returned (.int .i64 (lk.length : Int)) ∧ Below w.heap.size w w' := by
  have c3 := h.c3
  have HH : Hid (Specs17 LS ∧ LS w ql lk Fl ∧ Lk.Fine m lk ∧ m ≤ 1000000) := ⟨L, h.lo, hf, hm⟩
  clear h hf hm L
  go_enter Tryz.func14, Tryz.ntmps14
  go_wp2_with fail
  refine (HH.out.1.len ql lk Fl m w HH.out.2.1 HH.out.2.2.1 HH.out.2.2.2).mono ?_
  rintro e w1 ⟨rfl, hb⟩
  have HB : Hid (Below w.heap.size w w1) := hb
  clear hb c3
  go_wp2
  go_ret
  exact ⟨rfl, HB.out⟩
set_option maxRecDepth 20000 in
set_option maxHeartbeats 1000000 in
theorem tree_any18 (S : Specs11 LT) (h : PtU18 LT LS w q room z wt t lk fw fd fs F qt ql a b c Ft Fl G) (hf : Fine11 t) :
    Calls Tryz.prog 19 #[dptr q] w fun e w' => ∃ q2 F2, e = .returned (dptr q2) ∧ LT w' q2 t F2 ∧ (∀ k, F2 k → w.heap.size ≤ k) ∧ Below w.heap.size w w' := by
  have c0 := h.c0
  have HH : Hid (Specs11 LT ∧ LT w qt t Ft ∧ Fine11 t) := ⟨S, h.tr, hf⟩
  clear h hf S
  go_enter Tryz.func19, Tryz.ntmps19
  go_wp2_with fail
  refine (HH.out.1.copy qt t Ft w HH.out.2.1 HH.out.2.2).mono ?_
  rintro e w1 ⟨q2, F2, rfl, h1, h2, _, hb⟩
  have HB : Hid (LT w1 q2 t F2 ∧ (∀ k, F2 k → w.heap.size ≤ k) ∧ Below w.heap.size w w1) := ⟨h1, h2, hb⟩
  clear hb c0 h1 h2
  go_wp2
  go_ret
  exact ⟨q2, F2, rfl, HB.out⟩
set_option maxRecDepth 20000 in
set_option maxHeartbeats 1000000 in
theorem closed_any18 (h : PtU18 LT LS w q room z wt t lk fw fd fs F qt ql a b c Ft Fl G) (he : IsE18 ps cl fs) (s : Int) (hs : I64 s) :
    Calls Tryz.prog 18 #[dptr q, .int .i64 s] w fun e w' => e = .returned (.bool (decide (s ∈ cl))) ∧ w' = w := by
  have c6 := h.c6
  obtain ⟨n, hn⟩ : ∃ n, n = Pt.asks ps s := ⟨_, rfl⟩
  obtain ⟨cg, hcg⟩ : ∃ n, n = ps.any fun p => p.closes && decide (p.sess = s) := ⟨_, rfl⟩
  obtain ⟨cd, hcd⟩ : ∃ n, n = decide (s ∈ cl) := ⟨_, rfl⟩
  have HH : Hid (Mq w 2 c fs ∧ (fs (ikey s)).getD (sv18 0 false false) = sv18 n cg cd ∧ keyOf Tryz.prog 2 (.int .i64 s) = some (ikey s)) := ⟨h.ms, by rw [he.at_, hn, hcg, hcd]; exact sq_get18 _ _ _, key_i hs⟩
  rw [← hcd]
  have hfl := fun w => (fieldE18 n cg cd w).2
  clear h he hs hn hcg hcd
  go_enter Tryz.func18, Tryz.ntmps18
  go_wp2_with (at_lookup; refine wpList_lookM rfl _ _ 88 rfl 2 109 keyedI Tryz.underlying88 (sv18 0 false false) (zeroE18 _) rfl HH.out.1 (.int .i64 s) (ikey s) rfl HH.out.2.2 (sv18 n cg cd) HH.out.2.1 ?_)
  go_wp2
  go_ret
  exact ⟨rfl, rfl⟩
set_option maxRecDepth 20000 in
set_option maxHeartbeats 2000000 in
theorem ended_any18 (h : PtU18 LT LS w q room z wt t lk fw fd fs F qt ql a b c Ft Fl G) (he : IsE18 ps cl fs) (s : Int) (hs : I64 s) :
    Calls Tryz.prog 58 #[dptr q, .int .i64 s] w fun e w' => e = .returned (.int .i64 (if s ∈ cl then 11 else if (ps.any fun p => p.closes && decide (p.sess = s)) = true then 12 else 0)) ∧ Below w.heap.size w w' := by
  have c6 := h.c6
  obtain ⟨n, hn⟩ : ∃ n, n = Pt.asks ps s := ⟨_, rfl⟩
  obtain ⟨cg, hcg⟩ : ∃ n, n = ps.any fun p => p.closes && decide (p.sess = s) := ⟨_, rfl⟩
  obtain ⟨cd, hcd⟩ : ∃ n, n = decide (s ∈ cl) := ⟨_, rfl⟩
  have HH : Hid (Mq w 2 c fs ∧ (fs (ikey s)).getD (sv18 0 false false) = sv18 n cg cd ∧ keyOf Tryz.prog 2 (.int .i64 s) = some (ikey s)) := ⟨h.ms, by rw [he.at_, hn, hcg, hcd]; exact sq_get18 _ _ _, key_i hs⟩
  have hR : (if s ∈ cl then 11 else if (ps.any fun p => p.closes && decide (p.sess = s)) = true then 12 else 0 : Int) = if cd = true then 11 else if cg = true then 12 else 0 := by rw [hcd, hcg]; simp only [decide_eq_true_eq]
  rw [hR]
  clear h he hs hn hcg hcd hR
  have HB : Hid (Below w.heap.size w (w.alloc (.cells #[.int .i64 (n : Int), .bool cg, .bool cd] 109))) := (Below.refl _ w).alloc (Nat.le_refl _) _
  have hsv : sv18 n cg cd = .agg #[.int .i64 (n : Int), .bool cg, .bool cd] := rfl
  rw [hsv] at HH
  clear hsv
  cases cd with
  | true =>
    cases cg with
    | true =>
      go_enter Tryz.func58, Tryz.ntmps58
      go_wp2_with (at_lookup; refine wpList_lookM rfl _ _ 88 rfl 2 109 keyedI Tryz.underlying88 (sv18 0 false false) (zeroE18 _) rfl HH.out.1 (.int .i64 s) (ikey s) rfl HH.out.2.2 (.agg #[.int .i64 (n : Int), .bool true, .bool true]) HH.out.2.1 ?_)
      go_wp2
      go_ret
      exact ⟨rfl, HB.out⟩
    | false =>
      go_enter Tryz.func58, Tryz.ntmps58
      go_wp2_with (at_lookup; refine wpList_lookM rfl _ _ 88 rfl 2 109 keyedI Tryz.underlying88 (sv18 0 false false) (zeroE18 _) rfl HH.out.1 (.int .i64 s) (ikey s) rfl HH.out.2.2 (.agg #[.int .i64 (n : Int), .bool false, .bool true]) HH.out.2.1 ?_)
      go_wp2
      go_ret
      exact ⟨rfl, HB.out⟩
  | false =>
    cases cg with
    | true =>
      go_enter Tryz.func58, Tryz.ntmps58
      go_wp2_with (at_lookup; refine wpList_lookM rfl _ _ 88 rfl 2 109 keyedI Tryz.underlying88 (sv18 0 false false) (zeroE18 _) rfl HH.out.1 (.int .i64 s) (ikey s) rfl HH.out.2.2 (.agg #[.int .i64 (n : Int), .bool true, .bool false]) HH.out.2.1 ?_)
      go_wp2
      go_ret
      exact ⟨rfl, HB.out⟩
    | false =>
      go_enter Tryz.func58, Tryz.ntmps58
      go_wp2_with (at_lookup; refine wpList_lookM rfl _ _ 88 rfl 2 109 keyedI Tryz.underlying88 (sv18 0 false false) (zeroE18 _) rfl HH.out.1 (.int .i64 s) (ikey s) rfl HH.out.2.2 (.agg #[.int .i64 (n : Int), .bool false, .bool false]) HH.out.2.1 ?_)
      go_wp2
      go_ret
      exact ⟨rfl, HB.out⟩
set_option maxRecDepth 20000 in
set_option maxHeartbeats 2000000 in
theorem isNew_any18 {s : Pt.St} (h : PtU18 LT LS w q room z wt t lk fw fd fs F qt ql a b c Ft Fl G) (hw : IsW18 w s.ps V G fw) (hd : IsD18 s.dn fd) (id : Int) (hs : I64 id) :
    Calls Tryz.prog 44 #[dptr q, .int .i64 id] w fun e w' => e = .returned (.bool (Pt.isNew s id)) ∧ Below w.heap.size w w' := by
  have c4 := h.c4
  have c5 := h.c5
  obtain ⟨v0, v1, v2, ok, hlw, hok⟩ : ∃ (v0 : Int) (v1 : Option Addr × Nat × Nat) (v2 ok : Bool), ((fw (ikey id)).getD (.agg #[.int .i64 0, .slice none 0 0, .bool false]) = .agg #[.int .i64 v0, .slice v1.1 v1.2.1 v1.2.2, .bool v2] ∧ (fw (ikey id)).isSome = ok) ∧ ok = s.ps.any fun p => decide (p.id = id) := by
    rw [hw.at_]
    cases e : s.ps.find? fun p => decide (p.id = id) with
    | none =>
      refine ⟨0, (none, 0, 0), false, false, ⟨rfl, rfl⟩, ?_⟩
      rw [List.find?_eq_none] at e
      exact (List.any_eq_false.2 (fun p hp => by simpa using e p hp)).symm
    | some p =>
      obtain ⟨av, k, cc, hv, _⟩ := hw.ops p (List.mem_of_find?_eq_some e)
      refine ⟨p.sess, (av, k, cc), p.closes, true, ⟨?_, rfl⟩, ?_⟩
      · show wv18 p (V p.id) = _
        rw [hv]
        rfl
      · exact (List.any_eq_true.2 ⟨p, List.mem_of_find?_eq_some e, List.find?_some e⟩).symm
  obtain ⟨av, n, cc⟩ := v1
  obtain ⟨od, hod⟩ : ∃ od, od = decide (id ∈ s.dn) := ⟨_, rfl⟩
  have HH : Hid (Mq w 2 a fw ∧ (fw (ikey id)).getD (.agg #[.int .i64 0, .slice none 0 0, .bool false]) = .agg #[.int .i64 v0, .slice av n cc, .bool v2] ∧ (fw (ikey id)).isSome = ok ∧ keyOf Tryz.prog 2 (.int .i64 id) = some (ikey id)) := ⟨h.mw, hlw.1, hlw.2, key_i hs⟩
  have HD : Hid (Mq w 2 b fd ∧ (fd (ikey id)).getD (.agg #[]) = .agg #[] ∧ (fd (ikey id)).isSome = od) := by
    refine ⟨h.md, ?_, ?_⟩
    · rw [hd.at_]; split <;> rfl
    · rw [hd.at_, hod]; by_cases e : id ∈ s.dn <;> simp [e]
  obtain ⟨R, hR⟩ : ∃ R, R = Pt.isNew s id := ⟨_, rfl⟩
  have HR : Hid (R = (decide (0 < id) && !ok && !od)) := (show R = (decide (0 < id) && !ok && !od) by rw [hR, hok, hod]; rfl)
  rw [← hR]
  obtain ⟨g, hg⟩ : ∃ g, g = w.heap.size := ⟨_, rfl⟩
  have H1 : Hid (Below w.heap.size w (w.alloc (.cells #[.int .i64 v0, .slice av n cc, .bool v2] 94)) ∧ Mq (w.alloc (.cells #[.int .i64 v0, .slice av n cc, .bool v2] 94)) 2 b fd ∧ (w.alloc (.cells #[.int .i64 v0, .slice av n cc, .bool v2] 94)).cell? ⟨q, 5, none⟩ = some (.map (some b))) := by
    have hb := (Below.refl w.heap.size w).alloc (Nat.le_refl _) (.cells #[.int .i64 v0, .slice av n cc, .bool v2] 94)
    exact ⟨hb, HD.out.1.keep (hb.block b HD.out.1.lt), Below.kept hb c5⟩
  have d5 := H1.out.2.2

  have H2 : Hid (Below w.heap.size w ((w.alloc (.cells #[.int .i64 v0, .slice av n cc, .bool v2] 94)).alloc (.cells #[] 103))) := H1.out.1.alloc H1.out.1.size _
  clear h hw hd hs hlw hok hod hR hg
  by_cases hi : 0 < id
  · cases ok with
    | true =>
      have HX : Hid (R = false) := (show R = false by rw [HR.out]; simp)
      cases od with
      | true =>
        go_enter Tryz.func44, Tryz.ntmps44
        go_wp2_with (at_lookup; first | refine wpList_lookMok rfl _ _ 86 rfl 2 94 keyedI Tryz.underlying86 (.agg #[.int .i64 0, .slice none 0 0, .bool false]) (zeroW18 _) rfl HH.out.1 (.int .i64 id) (ikey id) rfl HH.out.2.2.2 (.agg #[.int .i64 v0, .slice av n cc, .bool v2]) true HH.out.2.1 HH.out.2.2.1 ?_ | refine wpList_lookMok rfl _ _ 87 rfl 2 103 keyedI Tryz.underlying87 (.agg #[]) (zeroD18 _) rfl H1.out.2.1 (.int .i64 id) (ikey id) rfl HH.out.2.2.2 (.agg #[]) true HD.out.2.1 HD.out.2.2 ?_)
        go_wp2
        go_ret
        rw [HX.out]
        exact ⟨rfl, H2.out⟩
      | false =>
        go_enter Tryz.func44, Tryz.ntmps44
        go_wp2_with (at_lookup; first | refine wpList_lookMok rfl _ _ 86 rfl 2 94 keyedI Tryz.underlying86 (.agg #[.int .i64 0, .slice none 0 0, .bool false]) (zeroW18 _) rfl HH.out.1 (.int .i64 id) (ikey id) rfl HH.out.2.2.2 (.agg #[.int .i64 v0, .slice av n cc, .bool v2]) true HH.out.2.1 HH.out.2.2.1 ?_ | refine wpList_lookMok rfl _ _ 87 rfl 2 103 keyedI Tryz.underlying87 (.agg #[]) (zeroD18 _) rfl H1.out.2.1 (.int .i64 id) (ikey id) rfl HH.out.2.2.2 (.agg #[]) false HD.out.2.1 HD.out.2.2 ?_)
        go_wp2
        go_ret
        rw [HX.out]
        exact ⟨rfl, H2.out⟩
    | false =>
      cases od with
      | true =>
        have HX : Hid (R = false) := (show R = false by rw [HR.out]; simp)
        go_enter Tryz.func44, Tryz.ntmps44
        go_wp2_with (at_lookup; first | refine wpList_lookMok rfl _ _ 86 rfl 2 94 keyedI Tryz.underlying86 (.agg #[.int .i64 0, .slice none 0 0, .bool false]) (zeroW18 _) rfl HH.out.1 (.int .i64 id) (ikey id) rfl HH.out.2.2.2 (.agg #[.int .i64 v0, .slice av n cc, .bool v2]) false HH.out.2.1 HH.out.2.2.1 ?_ | refine wpList_lookMok rfl _ _ 87 rfl 2 103 keyedI Tryz.underlying87 (.agg #[]) (zeroD18 _) rfl H1.out.2.1 (.int .i64 id) (ikey id) rfl HH.out.2.2.2 (.agg #[]) true HD.out.2.1 HD.out.2.2 ?_)
        go_wp2
        go_ret
        rw [HX.out]
        exact ⟨rfl, H2.out⟩
      | false =>
        have HX : Hid (R = true) := (show R = true by rw [HR.out]; simp [hi])
        go_enter Tryz.func44, Tryz.ntmps44
        go_wp2_with (at_lookup; first | refine wpList_lookMok rfl _ _ 86 rfl 2 94 keyedI Tryz.underlying86 (.agg #[.int .i64 0, .slice none 0 0, .bool false]) (zeroW18 _) rfl HH.out.1 (.int .i64 id) (ikey id) rfl HH.out.2.2.2 (.agg #[.int .i64 v0, .slice av n cc, .bool v2]) false HH.out.2.1 HH.out.2.2.1 ?_ | refine wpList_lookMok rfl _ _ 87 rfl 2 103 keyedI Tryz.underlying87 (.agg #[]) (zeroD18 _) rfl H1.out.2.1 (.int .i64 id) (ikey id) rfl HH.out.2.2.2 (.agg #[]) false HD.out.2.1 HD.out.2.2 ?_)
        go_wp2
        go_ret
        rw [HX.out]
        exact ⟨rfl, H2.out⟩
  · have HX : Hid (R = false) := (show R = false by rw [HR.out]; simp [hi])
    go_enter Tryz.func44, Tryz.ntmps44
    go_wp2_with (at_lookup; first | refine wpList_lookMok rfl _ _ 86 rfl 2 94 keyedI Tryz.underlying86 (.agg #[.int .i64 0, .slice none 0 0, .bool false]) (zeroW18 _) rfl HH.out.1 (.int .i64 id) (ikey id) rfl HH.out.2.2.2 (.agg #[.int .i64 v0, .slice av n cc, .bool v2]) ok HH.out.2.1 HH.out.2.2.1 ?_ | refine wpList_lookMok rfl _ _ 87 rfl 2 103 keyedI Tryz.underlying87 (.agg #[]) (zeroD18 _) rfl H1.out.2.1 (.int .i64 id) (ikey id) rfl HH.out.2.2.2 (.agg #[]) od HD.out.2.1 HD.out.2.2 ?_)
    go_wp2
    go_ret
    rw [HX.out]
    exact ⟨rfl, H2.out⟩
end
end Go.Proofs.YtboejbjobjhajaaGreatDoor
namespace Go.Proofs.YtboejbjobjhajaaGreatDoor
open Go.RowKit
structure SpecQ18 (LT : Rep11) : Prop where
  len : ∀ (q : Nat) (t : Tq.Tr) (F : Nat → Prop) (w : World), LT w q t F →
    Calls Tryz.prog 20 #[dptr q] w fun e w' => e = .returned (.int .i64 (t.l.length : Int)) ∧ Below w.heap.size w w'
structure Base18 (LT : Rep11) (LS : Rep17) : Prop where
  t : Specs11 LT
  d : SpecD12 LT
  p : SpecP12 LT
  q : SpecQ18 LT
  l : Specs17 LS
section
variable {LT : Rep11} {LS : Rep17} {w : World} {q : Nat} {room z wt : Int} {t : Tq.Tr} {lk : Lk.St} {fw fd fs : Lit → Option Value} {F : Nat → Prop} {qt ql a b c : Nat} {Ft Fl G : Nat → Prop} {ps : List Pt.Pr} {dn cl : List Int} {V : Int → Value}
set_option maxRecDepth 20000 in
set_option maxHeartbeats 2000000 in
theorem blocksC_any18 (S : Base18 LT LS) {m : Nat} (h : PtU18 LT LS w q room z wt t lk fw fd fs F qt ql a b c Ft Fl G) (hf : Lk.Fine m lk) (hm : m ≤ 1000000) (hS : Pa.Std w) (who : Int) (hw : I64 who) (p : ByteArray) (hp : p.size ≤ maxLen) (b1 b2 : Nat) (h1 : w.cell? ⟨b1, 0, none⟩ = some (dptr q)) (h2 : w.cell? ⟨b2, 0, none⟩ = some (.int .i64 who)) :
    Calls Tryz.prog 132 #[.string p, .pointer (some ⟨b1, 0, none⟩), .pointer (some ⟨b2, 0, none⟩)] w fun e w' => e = .returned (.bool (Lk.blocks lk who p)) ∧ Below w.heap.size w w' := by
  have HH : Hid (Base18 LT LS ∧ Lk.Fine m lk ∧ m ≤ 1000000 ∧ Pa.Std w ∧ I64 who ∧ p.size ≤ maxLen ∧ PtU18 LT LS w q room z wt t lk fw fd fs F qt ql a b c Ft Fl G ∧ w.cell? ⟨b1, 0, none⟩ = some (dptr q) ∧ w.cell? ⟨b2, 0, none⟩ = some (.int .i64 who)) := ⟨S, hf, hm, hS, hw, hp, h, h1, h2⟩
  clear S h hf hm hS hw hp h1 h2
  go_enter Tryz.func132, Tryz.ntmps132
  go_upto_region 1 with fail
  refine wp_region_held_drew (S := fun w' => Below w.heap.size w w') (by kernel_rfl) (Below.refl _ w).drew (fun _ => ?_)
  have H4 : Hid (Below w.heap.size w w.drew) := (Below.refl _ w).drew
  generalize w.drew = w4 at *
  refine' take_at (i := 0) (d := 5) (v := _) rfl rfl (by kernel_rfl) (by kernel_rfl) (by kernel_rfl) (fun _ _ _ h => h) (Or.inl ⟨by rfl, ?h0⟩) (H4.out) ?_
  case h0 =>
    intro w hSw
    have t1 := Below.kept hSw HH.out.2.2.2.2.2.2.2.1
    have t2 := Below.kept hSw HH.out.2.2.2.2.2.2.2.2
    have t3 := Below.kept hSw HH.out.2.2.2.2.2.2.1.c3
    go_simp
    with_reducible rfl
  simp only [List.setIfInBounds_toArray, List.set_cons_zero, List.set_cons_succ]
  refine' take_at (i := 1) (d := 6) (v := _) rfl rfl (by kernel_rfl) (by kernel_rfl) (by kernel_rfl) (fun _ _ _ h => h) (Or.inl ⟨by rfl, ?h1⟩) (H4.out) ?_
  case h1 =>
    intro w hSw
    have t1 := Below.kept hSw HH.out.2.2.2.2.2.2.2.1
    have t2 := Below.kept hSw HH.out.2.2.2.2.2.2.2.2
    have t3 := Below.kept hSw HH.out.2.2.2.2.2.2.1.c3
    go_simp
    with_reducible rfl
  simp only [List.setIfInBounds_toArray, List.set_cons_zero, List.set_cons_succ]
  refine' take_at (i := 2) (d := 7) (v := _) rfl rfl (by kernel_rfl) (by kernel_rfl) (by kernel_rfl) (fun _ _ _ h => h) (Or.inl ⟨by rfl, ?h2⟩) (H4.out) ?_
  case h2 =>
    intro w hSw
    have t1 := Below.kept hSw HH.out.2.2.2.2.2.2.2.1
    have t2 := Below.kept hSw HH.out.2.2.2.2.2.2.2.2
    have t3 := Below.kept hSw HH.out.2.2.2.2.2.2.1.c3
    go_simp
    with_reducible rfl
  simp only [List.setIfInBounds_toArray, List.set_cons_zero, List.set_cons_succ]
  refine' take_at (i := 3) (d := 8) (v := _) rfl rfl (by kernel_rfl) (by kernel_rfl) (by kernel_rfl) (fun _ _ _ h => h) (Or.inl ⟨by rfl, ?h3⟩) (H4.out) ?_
  case h3 =>
    intro w hSw
    have t1 := Below.kept hSw HH.out.2.2.2.2.2.2.2.1
    have t2 := Below.kept hSw HH.out.2.2.2.2.2.2.2.2
    have t3 := Below.kept hSw HH.out.2.2.2.2.2.2.1.c3
    go_simp
    with_reducible rfl
  simp only [List.setIfInBounds_toArray, List.set_cons_zero, List.set_cons_succ]
  refine' take_at (i := 4) (d := 9) (v := _) rfl rfl (by kernel_rfl) (by kernel_rfl) (by kernel_rfl) (fun _ _ _ h => h) (Or.inl ⟨by rfl, ?h4⟩) (H4.out) ?_
  case h4 =>
    intro w hSw
    have t1 := Below.kept hSw HH.out.2.2.2.2.2.2.2.1
    have t2 := Below.kept hSw HH.out.2.2.2.2.2.2.2.2
    have t3 := Below.kept hSw HH.out.2.2.2.2.2.2.1.c3
    go_simp
    with_reducible rfl
  simp only [List.setIfInBounds_toArray, List.set_cons_zero, List.set_cons_succ]
  refine' take_at (i := 5) (d := 10) (v := _) rfl rfl (by kernel_rfl) (by kernel_rfl) (by kernel_rfl) (fun _ _ _ h => h) (Or.inl ⟨by rfl, ?h5⟩) (H4.out) ?_
  case h5 =>
    intro w hSw
    have t1 := Below.kept hSw HH.out.2.2.2.2.2.2.2.1
    have t2 := Below.kept hSw HH.out.2.2.2.2.2.2.2.2
    have t3 := Below.kept hSw HH.out.2.2.2.2.2.2.1.c3
    go_simp
    with_reducible rfl
  simp only [List.setIfInBounds_toArray, List.set_cons_zero, List.set_cons_succ]
  refine wpAnyH_ready (rs := [6]) (by kernel_rfl) (by simp) ?_
  refine AllReadyH.cons (o := _) rfl (fun KQ hKQ => ?_) AllReadyH.nil
  go_simp
  have HU := HH.out.2.2.2.2.2.2.1.below HH.out.1.t HH.out.1.l H4.out
  refine (HH.out.1.l.blocks ql lk Fl m who p w4 HU.lo HH.out.2.1 HH.out.2.2.1 (HH.out.2.2.2.1.below H4.out) HH.out.2.2.2.2.1 HH.out.2.2.2.2.2.1).mono ?_
  rintro e w5 ⟨rfl, hb⟩
  have H5 : Hid (Below w.heap.size w w5) := H4.out.trans (hb.mono H4.out.size)
  clear hb HU
  refine hKQ.out _ _ H5.out (fun _ => ?_)
  clear hKQ KQ
  refine' take_at (i := 7) (d := 4) (v := _) rfl rfl (by kernel_rfl) (by kernel_rfl) (by kernel_rfl) (fun _ _ _ h => h) (Or.inl ⟨by rfl, ?h7⟩) (H5.out) ?_
  case h7 =>
    intro w hSw
    go_simp
    with_reducible rfl
  simp only [List.setIfInBounds_toArray, List.set_cons_zero, List.set_cons_succ]
  refine wpAnyH_done (by kernel_rfl) ?_ _
  go_wp2
  go_ret
  exact ⟨rfl, H5.out⟩
end
set_option maxRecDepth 20000 in
set_option maxHeartbeats 4000000 in
theorem index_part18 (v : Value) (ps : List ByteArray) (f : ByteArray → Bool) (w : World) (hv : Ss w v ps) (hl : ps.length ≤ 1000) (b1 b2 : Nat)
    (hc : ∀ x ∈ ps, ∀ w', Below w.heap.size w w' → Calls Tryz.prog 132 #[.string x, .pointer (some ⟨b1, 0, none⟩), .pointer (some ⟨b2, 0, none⟩)] w' fun e w2 => e = .returned (.bool (f x)) ∧ Below w'.heap.size w' w2) :
    Calls Tryz.prog 98 #[v, (Value.func (.func 132) #[] #[.pointer (some ⟨b1, 0, none⟩), .pointer (some ⟨b2, 0, none⟩)])] w fun e w' => ∃ r, e = .returned (.int .i64 r) ∧ InF17 ps f r ∧ Below w.heap.size w w' := by
  obtain ⟨av, N, c, rfl, hN, hcs⟩ := hv
  have H0 : Hid (N = ps.length ∧ (∀ (j : Nat) x, ps[j]? = some x → ∃ g o, av = some ⟨g, o, none⟩ ∧ w.cell? ⟨g, o + j, none⟩ = some (.string x)) ∧ ∀ x ∈ ps, ∀ w', Below w.heap.size w w' → Calls Tryz.prog 132 #[.string x, .pointer (some ⟨b1, 0, none⟩), .pointer (some ⟨b2, 0, none⟩)] w' fun e w2 => e = .returned (.bool (f x)) ∧ Below w'.heap.size w' w2) := ⟨hN, hcs, hc⟩
  have hNm : N ≤ 1000 := by omega
  clear hN hcs hc hl
  go_enter Tryz.func98, Tryz.ntmps98
  go_wp2
  go_loopw [8] (fun i wx => ∃ k : Nat, k ≤ N ∧ i = .int .i64 (k : Int) ∧ Below w.heap.size w wx ∧ ∀ y ∈ ps.take k, f y = false) (fun i _ => N - (intOf i).toNat)
  case atStart => exact ⟨0, Nat.zero_le _, rfl, Below.refl _ _, fun y hy => by simp at hy⟩
  case round =>
    obtain ⟨k, hk, rfl, hb, hy⟩ := hrel
    have HW : Hid (Below w.heap.size w wr ∧ ∀ y ∈ ps.take k, f y = false) := ⟨hb, hy⟩
    clear hb hy
    by_cases hlt : k < N
    · have hlt' : (k : Int) < (N : Int) := by omega
      have hk0 : (0 : Int) ≤ (k : Int) := by omega
      have hwk : IntKind.wrap .i64 ((k : Int) + 1) = (k : Int) + 1 := by rw [IntKind.wrap_i64]; omega
      obtain ⟨x, hx⟩ : ∃ x, ps[k]? = some x := ⟨ps[k]'(by rw [← H0.out.1]; exact hlt), List.getElem?_eq_getElem _⟩
      have HX : Hid (ps[k]? = some x) := hx
      obtain ⟨g, o, rfl, c0⟩ := H0.out.2.1 k x hx
      have c1 : wr.cell? ⟨g, o + k, none⟩ = some (.string x) := Below.kept HW.out.1 c0
      clear hx c0
      go_wp2_with fail
      refine (H0.out.2.2 x (List.mem_of_getElem? HX.out) wr HW.out.1).mono ?_
      rintro e w2 ⟨rfl, hb2⟩
      have H2 : Hid (Below w.heap.size w w2) := HW.out.1.trans (hb2.mono HW.out.1.size)
      clear hb2 c1
      cases hs : f x with
      | true =>
        have HR : Hid (InF17 ps f (k : Int)) := Or.inr ⟨k, x, rfl, HX.out, find_at17 HX.out hs HW.out.2⟩
        clear hs
        go_wp2
        go_ret
        exact ⟨_, rfl, HR.out, H2.out⟩
      | false =>
        have HR : Hid (∀ y ∈ ps.take (k + 1), f y = false) := fun y hy => by
          rw [List.take_add_one, HX.out] at hy
          rcases List.mem_append.1 hy with hy | hy
          · exact HW.out.2 y hy
          · simp at hy
            rw [hy]
            exact hs
        clear hs
        go_wp2
        go_roundw
        case rel => exact ⟨k + 1, by omega, by go_num, H2.out, HR.out⟩
        case measure => simp [intOf]; omega
    · have hlt' : ¬ (k : Int) < (N : Int) := by omega
      have HR : Hid (InF17 ps f (-1)) := Or.inl ⟨rfl, List.find?_eq_none.2 fun y hy => by rw [HW.out.2 y (by rw [List.take_of_length_le (by rw [← H0.out.1]; omega)]; exact hy)]; simp⟩
      go_wp2
      go_ret
      exact ⟨_, rfl, HR.out, HW.out.1⟩
set_option maxRecDepth 20000 in
set_option maxHeartbeats 2000000 in
theorem has_part18 (v : Value) (ps : List ByteArray) (f : ByteArray → Bool) (w : World) (hv : Ss w v ps) (hl : ps.length ≤ 1000) (b1 b2 : Nat)
    (hc : ∀ x ∈ ps, ∀ w', Below w.heap.size w w' → Calls Tryz.prog 132 #[.string x, .pointer (some ⟨b1, 0, none⟩), .pointer (some ⟨b2, 0, none⟩)] w' fun e w2 => e = .returned (.bool (f x)) ∧ Below w'.heap.size w' w2) :
    Calls Tryz.prog 131 #[v, (Value.func (.func 132) #[] #[.pointer (some ⟨b1, 0, none⟩), .pointer (some ⟨b2, 0, none⟩)])] w fun e w' => e = .returned (.bool (ps.any f)) ∧ Below w.heap.size w w' := by
  have HC : Hid (Calls Tryz.prog 98 #[v, (Value.func (.func 132) #[] #[.pointer (some ⟨b1, 0, none⟩), .pointer (some ⟨b2, 0, none⟩)])] w fun e w' => ∃ r, e = .returned (.int .i64 r) ∧ InF17 ps f r ∧ Below w.heap.size w w') := index_part18 v ps f w hv hl b1 b2 hc
  clear hc hl hv
  go_enter Tryz.func131, Tryz.ntmps131
  go_wp2_with fail
  refine HC.out.mono ?_
  rintro e w1 ⟨r, rfl, hr, hb⟩
  have HB : Hid (Below w.heap.size w w1) := hb
  clear hb
  rcases hr with ⟨rfl, hn⟩ | ⟨k, p, rfl, _, hs⟩
  · have HR : Hid (ps.any f = false) := (show ps.any f = false by
      rw [List.any_eq_false]
      intro x hx
      rw [List.find?_eq_none] at hn
      exact hn x hx)
    clear hn
    go_wp2
    go_ret
    rw [HR.out]
    exact ⟨rfl, HB.out⟩
  · have HR : Hid (ps.any f = true) := (show ps.any f = true by
      rw [List.any_eq_true]
      exact ⟨p, List.mem_of_find?_eq_some hs, List.find?_some hs⟩)
    have hk : (0 : Int) ≤ (k : Int) := by omega
    clear hs
    go_wp2
    go_ret
    rw [HR.out]
    exact ⟨rfl, HB.out⟩
section
variable {LT : Rep11} {LS : Rep17} {w : World} {q : Nat} {room z wt : Int} {t : Tq.Tr} {lk : Lk.St} {fw fd fs : Lit → Option Value} {F : Nat → Prop} {qt ql a b c : Nat} {Ft Fl G : Nat → Prop} {ps : List Pt.Pr} {dn cl : List Int} {V : Int → Value}
theorem wants_size18 {o : O} (hg : Oq.good o = 0) : ∀ p ∈ Pt.wants o, p.size ≤ maxLen := fun p hp => by
  have h1 := (Pl.good_parts (show Pl.goodB p.data.toList = true from Pt.wants_good hg p hp)).2.2
  rw [Pa.sz_list] at h1
  unfold maxLen
  omega
theorem good_flags18 {o : O} (hg : Oq.good o = 0) : (0 ≤ o.flags ∧ o.flags ≤ 3) ∧ (2 ≤ o.flags → Lk.under o.path = true) := by
  have h4 := Tq.good_zero hg
  refine ⟨?_, fun hf => ?_⟩
  · have h5 := h4.1
    unfold Oq.headB at h5
    simp only [Bool.or_eq_false_iff, decide_eq_false_iff_not] at h5
    omega
  · obtain ⟨h1, h2⟩ := Pt.seq_under hg hf
    have h3 := Tq.good_path hg
    unfold Lk.under Lk.good
    rw [h3]
    simp [h2]
theorem ss_row18 {w : World} {B : Nat} {v : Value} {ls : List ByteArray} (h : w.ownsRow B 9 1 v ls.length (sc ls)) : Ss w v ls := by
  obtain ⟨av, c, rfl, hc, hg⟩ := row_form h
  refine ⟨av, ls.length, c, rfl, rfl, fun j s hj => ?_⟩
  have hl := (List.getElem?_eq_some_iff.1 hj).1
  obtain ⟨g, rfl⟩ := hg (by omega)
  refine ⟨g, 0, rfl, ?_⟩
  rw [Nat.zero_add, h.cellAt j (by omega)]
  unfold sc
  rw [List.getElem?_map, hj]
  rfl
set_option maxRecDepth 20000 in
set_option maxHeartbeats 2000000 in
theorem blocks_any18 (S : Base18 LT LS) {m : Nat} (h : PtU18 LT LS w q room z wt t lk fw fd fs F qt ql a b c Ft Fl G) (hf : Lk.Fine m lk) (hm : m ≤ 1000000) (hS : Pa.Std w) (who : Int) (hw : I64 who) (o : O) (hg : Oq.good o = 0) :
    Calls Tryz.prog 91 #[dptr q, .int .i64 who, ov o] w fun e w' => e = .returned (.bool ((Pt.wants o).any (Lk.blocks lk who))) ∧ Below w.heap.size w w' := by
  obtain ⟨R, hR⟩ : ∃ R, R = (Pt.wants o).any (Lk.blocks lk who) := ⟨_, rfl⟩
  rw [← hR]
  have HR : Hid (R = (Pt.wants o).any (Lk.blocks lk who)) := hR
  have HH : Hid (Base18 LT LS ∧ Lk.Fine m lk ∧ m ≤ 1000000 ∧ Pa.Std w ∧ I64 who ∧ Oq.good o = 0 ∧ PtU18 LT LS w q room z wt t lk fw fd fs F qt ql a b c Ft Fl G) := ⟨S, hf, hm, hS, hw, hg, h⟩
  clear S hf hm hS hw hg h hR
  unfold ov
  go_enter Tryz.func91, Tryz.ntmps91
  go_upto_region 1 with fail
  obtain ⟨b1, hb1⟩ : ∃ b, b = w.heap.size := ⟨_, rfl⟩
  rw [← hb1]
  obtain ⟨b2, hb2⟩ : ∃ b, b = b1 + 1 := ⟨_, rfl⟩
  rw [← hb2]
  obtain ⟨b3, hb3⟩ : ∃ b, b = b2 + 1 := ⟨_, rfl⟩
  rw [← hb3]
  have H1 : Hid (Below w.heap.size w (((w.alloc (.cells #[dptr q] 23)).alloc (.cells #[.int .i64 who] 2)).alloc (.cells #[.int .i64 o.kind, .string o.path, .string o.data, .int .i64 o.ver, .int .i64 o.flags] 30)) ∧ (((w.alloc (.cells #[dptr q] 23)).alloc (.cells #[.int .i64 who] 2)).alloc (.cells #[.int .i64 o.kind, .string o.path, .string o.data, .int .i64 o.ver, .int .i64 o.flags] 30)).cell? ⟨b1, 0, none⟩ = some (dptr q) ∧ (((w.alloc (.cells #[dptr q] 23)).alloc (.cells #[.int .i64 who] 2)).alloc (.cells #[.int .i64 o.kind, .string o.path, .string o.data, .int .i64 o.ver, .int .i64 o.flags] 30)).cell? ⟨b2, 0, none⟩ = some (.int .i64 who) ∧ Box5 (((w.alloc (.cells #[dptr q] 23)).alloc (.cells #[.int .i64 who] 2)).alloc (.cells #[.int .i64 o.kind, .string o.path, .string o.data, .int .i64 o.ver, .int .i64 o.flags] 30)) b3 o) := by
    have hba := (Below.refl w.heap.size w).alloc (Nat.le_refl _) (.cells #[dptr q] 23)
    obtain ⟨wa, hwa⟩ : ∃ z, z = w.alloc (.cells #[dptr q] 23) := ⟨_, rfl⟩
    have hs : wa.heap.size = b2 := by rw [hwa, hb2, hb1]; simp
    have ca : Cb wa b1 [dptr q] 23 := by rw [hwa, hb1]; exact Cb.made w _ _
    rw [← hwa] at hba ⊢
    have hbb := hba.alloc hba.size (.cells #[.int .i64 who] 2)
    have hbc := (Below.refl wa.heap.size wa).alloc (Nat.le_refl _) (.cells #[.int .i64 who] 2)
    obtain ⟨wb, hwb⟩ : ∃ z, z = wa.alloc (.cells #[.int .i64 who] 2) := ⟨_, rfl⟩
    have hs2 : wb.heap.size = b3 := by rw [hwb, hb3]; simp [hs]
    have cb : Cb wb b2 [.int .i64 who] 2 := by rw [hwb, ← hs]; exact Cb.made wa _ _
    have ca2 : Cb wb b1 [dptr q] 23 := by rw [hwb]; exact ca.below hbc
    rw [← hwb] at hbb ⊢
    have hbd := (Below.refl wb.heap.size wb).alloc (Nat.le_refl _) (.cells #[.int .i64 o.kind, .string o.path, .string o.data, .int .i64 o.ver, .int .i64 o.flags] 30)
    exact ⟨hbb.alloc hbb.size _, (ca2.below hbd).cell 0, (cb.below hbd).cell 0, by rw [← hs2]; exact Box5.made wb o _⟩
  clear hb1 hb2 hb3
  generalize ((w.alloc (.cells #[dptr q] 23)).alloc (.cells #[.int .i64 who] 2)).alloc (.cells #[.int .i64 o.kind, .string o.path, .string o.data, .int .i64 o.ver, .int .i64 o.flags] 30) = w1 at *
  obtain ⟨c0, c1, c2, c3, c4⟩ := H1.out.2.2.2
  go_wp2_with fail
  refine (wants_any18 o w1 (HH.out.2.2.2.1.below H1.out.1) (wants_size18 HH.out.2.2.2.2.2.1 o.path (by unfold Pt.wants; split <;> simp)) (good_flags18 HH.out.2.2.2.2.2.1).1 (good_flags18 HH.out.2.2.2.2.2.1).2).mono ?_
  rintro e w2 ⟨v, rfl, hrow, hb⟩
  have H2 : Hid (Below w.heap.size w w2 ∧ w2.cell? ⟨b1, 0, none⟩ = some (dptr q) ∧ w2.cell? ⟨b2, 0, none⟩ = some (.int .i64 who) ∧ Ss w2 v (Pt.wants o)) := ⟨H1.out.1.trans (hb.mono H1.out.1.size), Below.kept hb H1.out.2.1, Below.kept hb H1.out.2.2.1, ss_row18 hrow⟩
  clear hb hrow c0 c1 c2 c3 c4 H1
  go_wp2_with fail
  refine (has_part18 v (Pt.wants o) (Lk.blocks lk who) w2 H2.out.2.2.2 (by have := Pt.wants_le o; omega) b1 b2 (fun x hx w' hb => by
    have hb' := H2.out.1.trans (hb.mono H2.out.1.size)
    exact blocksC_any18 HH.out.1 (HH.out.2.2.2.2.2.2.below HH.out.1.t HH.out.1.l hb') HH.out.2.1 HH.out.2.2.1 (HH.out.2.2.2.1.below hb') who HH.out.2.2.2.2.1 x (wants_size18 HH.out.2.2.2.2.2.1 x hx) b1 b2 (Below.kept hb H2.out.2.1) (Below.kept hb H2.out.2.2.1))).mono ?_
  rintro e w3 ⟨rfl, hb⟩
  have H3 : Hid (Below w.heap.size w w3) := H2.out.1.trans (hb.mono H2.out.1.size)
  clear hb H2
  go_wp2
  go_ret
  exact ⟨by rw [HR.out]; rfl, H3.out⟩
end
end Go.Proofs.YtboejbjobjhajaaGreatDoor
