/- The tree as it landed: a map of nodes, each in a block of its own, its names in a row of their own. What a Create does, in the landed code's steps; what path's calls answer in a tree's words. What the landed tree's small calls answer: New, Len, mayLay, above. What the landed fill, Write, Ephemeral and hold do at a node of a tree. -/
import Derived.Test.YtboejbjobjhajaaGreatDoorSpecs11
import Derived.Test.YtboejbjobjhajaaGreatDoorPln
import Derived.Maps.RangeWalk
import Derived.Maps.AppendAt
import Derived.Sort.KeysCollected
import Derived.BigQuiet
import Derived.Test.YtboejbjobjhajaaGreatDoorWnd
import Derived.Test.YtboejbjobjhajaaGreatDoorBas
namespace Go.Proofs.YtboejbjobjhajaaGreatDoor.Tq
open Kq
theorem en_uniq {l : List En} (hr : Rises (keys l)) {e f : En} (he : e ∈ l) (hf : f ∈ l) (h : e.1 = f.1) : e = f := by
  have h1 := find_of hr (p := e.1) (n := e.2) he
  have h2 := find_of hr (p := f.1) (n := f.2) hf
  rw [h, h2] at h1
  exact Prod.ext h (Option.some.inj h1).symm
theorem len_del_eq {p : ByteArray} {n : Kn} : ∀ {l : List En}, Rises (keys l) → find l p = some n → (del l p).length + 1 = l.length
  | [], _, h => by cases h
  | e :: l, hr, h => by
    unfold keys at hr
    rw [List.map_cons] at hr
    obtain ⟨h1, h2⟩ := List.pairwise_cons.1 hr
    rw [find_cons] at h
    by_cases he : e.1 = p
    · have e1 : del (e :: l) p = del l p := by simp [del, he]
      have e2 : del l p = l := by
        unfold del
        rw [List.filter_eq_self]
        intro x hx
        have h3 := lt_ne (h1 x.1 (List.mem_map.2 ⟨x, hx, rfl⟩))
        rw [he] at h3
        simpa using fun e => h3 e.symm
      rw [e1, e2, List.length_cons]
    · rw [if_neg he] at h
      have e1 : del (e :: l) p = e :: del l p := by simp [del, he]
      have ih := len_del_eq h2 h
      rw [e1, List.length_cons, List.length_cons]
      omega
theorem set_ins {l : List En} {p q : ByteArray} {n m : Kn} (h : p ≠ q) : set (ins l p n) q m = ins (set l q m) p n := by
  have hf : ((fun e : En => lt e.1 p) ∘ fun e : En => if e.1 = q then (e.1, m) else e) = fun e : En => lt e.1 p := by
    funext e
    simp only [Function.comp]
    split <;> rfl
  unfold ins low high set
  rw [List.takeWhile_map, List.dropWhile_map, hf, List.map_append, List.map_cons, if_neg h]
theorem mem_set2 {l : List En} {e : En} {p : ByteArray} {n : Kn} (h : e ∈ set l p n) : (e ∈ l ∧ e.1 ≠ p) ∨ (e = (p, n) ∧ p ∈ keys l) := by
  unfold set at h
  obtain ⟨x, hx, he⟩ := List.mem_map.1 h
  split at he
  · rename_i hp
    rw [hp] at he
    exact Or.inr ⟨he.symm, List.mem_map.2 ⟨x, hx, hp⟩⟩
  · rename_i hp
    exact Or.inl (he ▸ ⟨hx, hp⟩)
end Go.Proofs.YtboejbjobjhajaaGreatDoor.Tq
namespace Go.Proofs.YtboejbjobjhajaaGreatDoor
open Go.RowKit

def fElem : Value → Option (DataW Nat × List MemPlace)
  | .pointer none => some (.nil, [])
  | .pointer (some ⟨p, 0, none⟩) => some (.held p, [])
  | _ => none
theorem fElem_ptr (p : Nat) : fElem (dptr p) = some (.held p, []) := rfl
theorem fElem_inv {v : Value} {y : DataW Nat × List MemPlace} (h : fElem v = some y) : ∃ o : Option Nat, v = .pointer (o.map fun p => ⟨p, 0, none⟩) := by
  unfold fElem at h
  split at h
  · exact ⟨none, rfl⟩
  · exact ⟨some _, rfl⟩
  · cases h
theorem fElem_held {v : Value} {p : Nat} {ps : List MemPlace} (h : fElem v = some (.held p, ps)) : v = dptr p := by
  unfold fElem at h
  split at h
  · cases h
  · cases h; rfl
  · cases h
theorem fElem_nil {v : Value} {ps : List MemPlace} (h : fElem v = some (.nil, ps)) : v = .pointer none := by
  unfold fElem at h
  split at h
  · rfl
  · cases h
  · cases h
def fkey (s : ByteArray) : Lit := .string s.data.toList
theorem fkey_inj {s t : ByteArray} (h : fkey s = fkey t) : s = t := by
  unfold fkey at h
  simp only [Lit.string.injEq] at h
  exact bytes_eq (by rw [ByteArray.toList_eq, ByteArray.toList_eq, h]; simp)
theorem keyed11 : Maps.Keyed Tryz.prog 9 := Maps.string_keyed Tryz.underlying9
theorem key_of {s : ByteArray} (hs : s.size ≤ maxLen) : keyOf Tryz.prog 9 (.string s) = some (fkey s) := Go.WideMaps.keyOf_string_mk Tryz.underlying9 hs
theorem fkey_lit {s : ByteArray} (hs : s.size ≤ maxLen) : WideAt.IsKeyLit (fkey s) := keyed11.key (key_of hs)
theorem good_len {p : ByteArray} (h : Pl.goodB p.data.toList = true) : p.size ≤ 200 := by
  have h1 := (Pl.good_parts h).2.2
  rw [Array.length_toList] at h1
  have h3 : p.size = p.data.size := rfl
  omega
theorem good_max {p : ByteArray} (h : Pl.goodB p.data.toList = true) : p.size ≤ maxLen := by have := good_len h; unfold maxLen; omega
theorem name_len {p : ByteArray} (h : Pl.nameB p.data.toList = true) : p.size ≤ 40 := by
  have h3 : p.size = p.data.toList.length := by rw [Array.length_toList]; rfl
  rw [h3]
  apply Classical.byContradiction
  intro hn
  rw [Pl.nameB_long (by omega)] at h
  cases h

structure Own11 (w : World) (q : Nat) (n : Kq.Kn) (v : Value) : Prop where
  blk : Cb w q (k10 n v) 175
  row : w.ownsRow 0 9 1 v n.names.length (sc n.names)
  rises : Kq.Rises n.names
section
variable {w w' : World} {q : Nat} {n : Kq.Kn} {v : Value}
theorem Own11.keep (h : Own11 w q n v) (hk : ∀ k, Fn q v k → w'.heap[k]? = w.heap[k]?) : Own11 w' q n v := ⟨h.blk.keep (hk q (Or.inl rfl)), row_stays h.row (fun k e => hk k (Or.inr e)), h.rises⟩
theorem Own11.flt (h : Own11 w q n v) {k : Nat} (hk : Fn q v k) : k < w.heap.size := by
  rcases hk with rfl | hk
  · exact h.blk.lt
  · exact (h.row.lt k hk).2
theorem Own11.vne (h : Own11 w q n v) : v.ownBlock ≠ some q := h.blk.apart h.row (by decide)
end

structure TkU (w : World) (q : Nat) (t : Tq.Tr) (G : Nat → Prop) (m : Nat) (D : DataW Nat) (P : ByteArray → Nat) (V : ByteArray → Value) : Prop where
  blk : Cb w q [.map (some m), .int .i64 t.room] 113
  own : w.ownsMap Tryz.prog 9 fElem m t.l.length D
  sz : Maps.size D = t.l.length
  has : ∀ kl, Maps.has D kl = true ↔ ∃ e ∈ t.l, kl = fkey e.1
  at_ : ∀ e ∈ t.l, ∀ z, D.atKey (fkey e.1) z = .held (P e.1)
  node : ∀ e ∈ t.l, Own11 w (P e.1) e.2 (V e.1)
  apart : ∀ e ∈ t.l, ∀ f ∈ t.l, e.1 ≠ f.1 → P e.1 ≠ P f.1 ∧ ∀ k, (V e.1).ownBlock = some k → (V f.1).ownBlock ≠ some k
  gq : G q
  gm : G m
  gf : ∀ e ∈ t.l, G (P e.1) ∧ ∀ k, (V e.1).ownBlock = some k → G k
  glt : ∀ k, G k → k < w.heap.size
def LTk : Rep11 := fun w q t G => ∃ m D P V, TkU w q t G m D P V

section
variable {w w' : World} {q m : Nat} {t : Tq.Tr} {G : Nat → Prop} {D : DataW Nat} {P : ByteArray → Nat} {V : ByteArray → Value}
theorem TkU.keep (h : TkU w q t G m D P V) (hk : ∀ k, G k → w'.heap[k]? = w.heap[k]?) : TkU w' q t G m D P V := by
  refine ⟨h.blk.keep (hk q h.gq), ?_, h.sz, h.has, h.at_, fun e he => (h.node e he).keep (fun k hk2 => ?_), h.apart, h.gq, h.gm, h.gf, fun k e => ?_⟩
  · obtain ⟨es, clock, hb, r⟩ := h.own
    exact ⟨es, clock, (hk m h.gm).trans hb, r⟩
  · rcases hk2 with rfl | hk2
    · exact hk _ (h.gf e he).1
    · exact hk _ ((h.gf e he).2 k hk2)
  · have h1 := h.glt k e
    have h2 := hk k e
    rw [Array.getElem?_eq_getElem h1] at h2
    exact (Array.getElem?_eq_some_iff.1 h2).1
theorem TkU.below (h : TkU w q t G m D P V) (hb : Below w.heap.size w w') : TkU w' q t G m D P V := h.keep fun k hk => hb.block k (h.glt k hk)
theorem TkU.ne_m (h : TkU w q t G m D P V) : m ≠ q := fun e => by
  obtain ⟨es, clock, hb, _⟩ := h.own
  have := h.blk
  unfold Cb at this
  rw [e, this] at hb
  cases hb
theorem TkU.p_m (h : TkU w q t G m D P V) {e : Tq.En} (he : e ∈ t.l) : P e.1 ≠ m := fun e2 => by
  obtain ⟨es, clock, hb, _⟩ := h.own
  have := (h.node e he).blk
  unfold Cb at this
  rw [e2, hb] at this
  cases this
theorem TkU.p_q (h : TkU w q t G m D P V) {e : Tq.En} (he : e ∈ t.l) : P e.1 ≠ q := fun e2 => by
  have h1 := (h.node e he).blk
  have h2 := h.blk
  unfold Cb at h1 h2
  rw [e2, h2] at h1
  simp only [Option.some.injEq, Obj.cells.injEq] at h1
  exact absurd h1.2.1 (by decide)
theorem TkU.v_m (h : TkU w q t G m D P V) {e : Tq.En} (he : e ∈ t.l) : (V e.1).ownBlock ≠ some m := fun e2 => by
  obtain ⟨es, clock, hb, _⟩ := h.own
  obtain ⟨cur, hc⟩ := row_in (h.node e he).row e2
  rw [hb] at hc
  cases hc
theorem TkU.v_q (h : TkU w q t G m D P V) {e : Tq.En} (he : e ∈ t.l) : (V e.1).ownBlock ≠ some q := h.blk.apart (h.node e he).row (by decide)
theorem own_v_p {p p' : Nat} {v v' : Value} {n n' : Kq.Kn} (h : Own11 w p n v) (h' : Own11 w p' n' v') : v.ownBlock ≠ some p' := h'.blk.apart h.row (by decide)

def Gd (w w' : World) (G : Nat → Prop) : Nat → Prop := fun k => G k ∨ (w.heap.size ≤ k ∧ k < w'.heap.size)
theorem Moved.gd {F F' : Nat → Prop} (h : Moved w w' F F') (hs : ∀ k, F k → G k) : Moved w w' G (Gd w w' G) :=
  ⟨h.os, h.tape, h.output, h.size, fun k hk hG => h.block k hk (fun e => hG (hs k e)), fun _ hk => hk.imp id (fun x => x.1)⟩
theorem gd_lt (hs : w.heap.size ≤ w'.heap.size) (hl : ∀ k, G k → k < w.heap.size) : ∀ k, Gd w w' G k → k < w'.heap.size := fun k hk => by
  rcases hk with hk | hk
  · exact Nat.lt_of_lt_of_le (hl k hk) hs
  · exact hk.2

theorem TkU.change (h : TkU w q t G m D P V) {p : ByteArray} {n n' : Kq.Kn} {v' : Value} (hf : (p, n) ∈ t.l) (ho : Own11 w' (P p) n' v') (hm : Moved w w' (Fn (P p) (V p)) (Fn (P p) v')) :
    TkU w' q { t with l := Tq.set t.l p n' } (Gd w w' G) m D P (fun x => if x = p then v' else V x) ∧ Moved w w' G (Gd w w' G) := by
  have hk : p ∈ Tq.keys t.l := List.mem_map.2 ⟨_, hf, rfl⟩
  have hmm : w'.heap[m]? = w.heap[m]? := hm.block m (h.glt m h.gm) (by
    rintro (e | e)
    · exact h.p_m hf e.symm
    · exact h.v_m hf e)
  have hqq : w'.heap[q]? = w.heap[q]? := hm.block q (h.glt q h.gq) (by
    rintro (e | e)
    · exact h.p_q hf e.symm
    · exact h.v_q hf e)
  have hold : ∀ x ∈ t.l, x.1 ≠ p → Own11 w' (P x.1) x.2 (V x.1) := fun x hx hne => (h.node x hx).keep (fun k hk2 => hm.block k ((h.node x hx).flt hk2) (by
    rcases hk2 with rfl | hk2
    · rintro (e | e)
      · exact (h.apart x hx _ hf hne).1 e
      · exact own_v_p (h.node _ hf) (h.node x hx) e
    · rintro (e | e)
      · exact own_v_p (h.node x hx) (h.node _ hf) (by rw [hk2, e])
      · exact (h.apart x hx _ hf hne).2 k hk2 e))
  have hsub : ∀ k, Fn (P p) (V p) k → G k := by
    rintro k (e | e)
    · exact e ▸ (h.gf _ hf).1
    · exact (h.gf _ hf).2 k e
  have hnew : ∀ k, v'.ownBlock = some k → ∀ y ∈ t.l, y.1 ≠ p → (V y.1).ownBlock ≠ some k := fun k hk y hy hne e => by
    rcases hm.sub k (Or.inr hk) with (h1 | h1) | h1
    · exact own_v_p (h.node y hy) (h.node _ hf) (by rw [e, h1])
    · exact (h.apart y hy _ hf hne).2 k e h1
    · have := h.glt k ((h.gf y hy).2 k e)
      omega
  refine ⟨⟨h.blk.keep hqq, ?_, ?_, fun kl => ?_, fun x hx z => ?_, fun x hx => ?_, fun x hx y hy hne => ?_, Or.inl h.gq, Or.inl h.gm, fun x hx => ?_, gd_lt hm.size h.glt⟩, hm.gd hsub⟩
  · obtain ⟨es, clock, hb, r⟩ := h.own
    simp only [Tq.len_set]
    exact ⟨es, clock, hmm.trans hb, r⟩
  · simp only [Tq.len_set]
    exact h.sz
  · rw [h.has]
    have key : ∀ s : ByteArray, (∃ e ∈ t.l, fkey s = fkey e.1) ↔ s ∈ Tq.keys t.l := fun s => ⟨fun ⟨e, he, e2⟩ => List.mem_map.2 ⟨e, he, (fkey_inj e2).symm⟩, fun hs => by
      obtain ⟨e, he, rfl⟩ := List.mem_map.1 hs
      exact ⟨e, he, rfl⟩⟩
    constructor
    · rintro ⟨e, he, e2⟩
      have h1 : e.1 ∈ Tq.keys (Tq.set t.l p n') := by rw [Tq.keys_set]; exact List.mem_map.2 ⟨e, he, rfl⟩
      obtain ⟨f, hf2, e3⟩ := List.mem_map.1 h1
      exact ⟨f, hf2, by rw [e2, e3]⟩
    · rintro ⟨e, he, e2⟩
      have h1 : e.1 ∈ Tq.keys (Tq.set t.l p n') := List.mem_map.2 ⟨e, he, rfl⟩
      rw [Tq.keys_set] at h1
      obtain ⟨f, hf2, e3⟩ := List.mem_map.1 h1
      exact ⟨f, hf2, by rw [e2, e3]⟩
  · rcases Tq.mem_set2 hx with ⟨hx, _⟩ | ⟨rfl, _⟩
    · exact h.at_ x hx z
    · exact h.at_ _ hf z
  · rcases Tq.mem_set2 hx with ⟨hx, hxp⟩ | ⟨rfl, _⟩
    · simp only [if_neg hxp]
      exact hold x hx hxp
    · simpa using ho
  · rcases Tq.mem_set2 hx with ⟨hx, hxp⟩ | ⟨rfl, _⟩
    · rcases Tq.mem_set2 hy with ⟨hy, hyp⟩ | ⟨rfl, _⟩
      · simp only [if_neg hxp, if_neg hyp]
        exact h.apart x hx y hy hne
      · simp only [if_neg hxp, if_pos]
        exact ⟨(h.apart x hx _ hf hxp).1, fun k hk hk2 => hnew k hk2 x hx hxp hk⟩
    · rcases Tq.mem_set2 hy with ⟨hy, hyp⟩ | ⟨rfl, _⟩
      · simp only [if_neg hyp, if_pos]
        exact ⟨Ne.symm (h.apart y hy _ hf hyp).1, fun k hk => hnew k hk y hy hyp⟩
      · exact absurd rfl hne
  · rcases Tq.mem_set2 hx with ⟨hx, hxp⟩ | ⟨rfl, _⟩
    · simp only [if_neg hxp]
      exact ⟨Or.inl (h.gf x hx).1, fun k hk => Or.inl ((h.gf x hx).2 k hk)⟩
    · simp only [if_pos]
      refine ⟨Or.inl (h.gf _ hf).1, fun k hk => ?_⟩
      rcases hm.sub k (Or.inr hk) with h1 | h1
      · exact Or.inl (hsub k h1)
      · exact Or.inr ⟨h1, (ho.row.lt k hk).2⟩

theorem tight11 {n : Nat} (h : w.ownsMap Tryz.prog 9 fElem m n D) : w.ownsMap Tryz.prog 9 fElem m (Maps.size D) D := by
  obtain ⟨es, clock, hb, F, hs, rfl⟩ := h
  exact ⟨es, clock, hb, F, by simp [Maps.size, length_sorted], rfl⟩

theorem TkU.gone (h : TkU w q t G m D P V) (hr : Kq.Rises (Tq.keys t.l)) {p : ByteArray} {n : Kq.Kn} {N : Nat} (hf : (p, n) ∈ t.l) (ho : w'.ownsMap Tryz.prog 9 fElem m N (D.del (fkey p))) (ht : w.mapTurned w' m) :
    TkU w' q { t with l := Tq.del t.l p } G m (D.del (fkey p)) P V ∧ Moved w w' G G := by
  have hg := ht.grown
  have hkp : ∀ k, G k → k ≠ m → w'.heap[k]? = w.heap[k]? := fun k hk hne => hg.block k (h.glt k hk) (by simpa using hne)
  have hfd : ∀ x ∈ t.l, Own11 w' (P x.1) x.2 (V x.1) := fun x hx => (h.node x hx).keep (fun k hk => by
    rcases hk with rfl | hk
    · exact hkp _ (h.gf x hx).1 (h.p_m hx)
    · exact hkp k ((h.gf x hx).2 k hk) (fun e => h.v_m hx (e ▸ hk)))
  have hsz : Maps.size (D.del (fkey p)) = (Tq.del t.l p).length := by
    have h1 := Maps.size_del (k := fkey p) (h.own.tidy keyed11)
    have h2 : Maps.has D (fkey p) = true := (h.has _).2 ⟨_, hf, rfl⟩
    have h4 := Tq.len_del_eq hr (Tq.find_of hr hf)
    have h5 := h.sz
    rw [h2] at h1
    simp only [if_true] at h1
    omega
  refine ⟨⟨h.blk.keep (hkp q h.gq (Ne.symm h.ne_m)), (tight11 ho).mono (Nat.le_of_eq hsz), hsz, fun kl => ?_, fun x hx z => ?_, fun x hx => hfd x (Tq.mem_del.1 hx).1, fun x hx y hy => h.apart x (Tq.mem_del.1 hx).1 y (Tq.mem_del.1 hy).1, h.gq, h.gm, fun x hx => h.gf x (Tq.mem_del.1 hx).1, fun k hk => Nat.lt_of_lt_of_le (h.glt k hk) hg.size⟩, ⟨hg.os, hg.tape, hg.output, hg.size, fun k hk hG => hg.block k hk (by simp; exact fun e => hG (e ▸ h.gm)), fun k hk => Or.inl hk⟩⟩
  · by_cases e : kl = fkey p
    · subst e
      rw [Maps.has_del_same]
      refine ⟨fun hx => (by cases hx), ?_⟩
      rintro ⟨x, hx, e⟩
      exact absurd (fkey_inj e).symm (Tq.mem_del.1 hx).2
    · rw [Maps.has_del_other e, h.has]
      constructor
      · rintro ⟨x, hx, e2⟩
        exact ⟨x, Tq.mem_del.2 ⟨hx, fun e3 => e (by rw [e2, e3])⟩, e2⟩
      · rintro ⟨x, hx, e2⟩
        exact ⟨x, (Tq.mem_del.1 hx).1, e2⟩
  · obtain ⟨hx1, hx2⟩ := Tq.mem_del.1 hx
    rw [Maps.atKey_del_other (fun e => hx2 (fkey_inj e))]
    exact h.at_ x hx1 z

theorem TkU.come (h : TkU w q t G m D P V) {p : ByteArray} {n : Kq.Kn} {b N : Nat} {v : Value} (hlen : p.size ≤ maxLen) (hnone : Tq.find t.l p = none) (ho : w'.ownsMap Tryz.prog 9 fElem m N (D.put (fkey p) (.held b))) (ht : w.mapTurned w' m)
    (hfd : Own11 w b n v) (hap : ∀ f ∈ t.l, P f.1 ≠ b ∧ ∀ k, (V f.1).ownBlock = some k → v.ownBlock ≠ some k) (hG : G b ∧ ∀ k, v.ownBlock = some k → G k) :
    TkU w' q { t with l := Tq.ins t.l p n } G m (D.put (fkey p) (.held b)) (fun x => if x = p then b else P x) (fun x => if x = p then v else V x) ∧ Moved w w' G G := by
  have hg := ht.grown
  have hbm : b ≠ m := fun e => by
    obtain ⟨es, clock, hb, _⟩ := h.own
    have := hfd.blk
    unfold Cb at this
    rw [e, hb] at this
    cases this
  have hvm : v.ownBlock ≠ some m := fun e2 => by
    obtain ⟨es, clock, hb, _⟩ := h.own
    obtain ⟨cur, hc⟩ := row_in hfd.row e2
    rw [hb] at hc
    cases hc
  have hkp : ∀ k, G k → k ≠ m → w'.heap[k]? = w.heap[k]? := fun k hk hne => hg.block k (h.glt k hk) (by simpa using hne)
  have hne : ∀ x ∈ t.l, x.1 ≠ p := fun x hx e => Tq.find_none hnone (List.mem_map.2 ⟨x, hx, e⟩)
  have hcase : ∀ x ∈ Tq.ins t.l p n, x = (p, n) ∨ (x ∈ t.l ∧ x.1 ≠ p) := fun x hx => (Tq.mem_ins.1 hx).imp id (fun e => ⟨e, hne x e⟩)
  have hsz : Maps.size (D.put (fkey p) (.held b)) = (Tq.ins t.l p n).length := by
    have h1 := Maps.size_put (k := fkey p) (h.own.tidy keyed11) (.held b)
    have h2 : Maps.has D (fkey p) = false := by
      cases hh : Maps.has D (fkey p) with
      | false => rfl
      | true =>
        obtain ⟨x, hx, e⟩ := (h.has _).1 hh
        exact absurd (fkey_inj e).symm (hne x hx)
    rw [h2] at h1
    rw [Tq.len_ins, h1, h.sz]
    rfl
  refine ⟨⟨h.blk.keep (hkp q h.gq (Ne.symm h.ne_m)), (tight11 ho).mono (Nat.le_of_eq hsz), hsz, fun kl => ?_, fun x hx z => ?_, fun x hx => ?_, fun x hx y hy hxy => ?_, h.gq, h.gm, fun x hx => ?_, fun k hk => Nat.lt_of_lt_of_le (h.glt k hk) hg.size⟩, ⟨hg.os, hg.tape, hg.output, hg.size, fun k hk hG => hg.block k hk (by simp; exact fun e => hG (e ▸ h.gm)), fun k hk => Or.inl hk⟩⟩
  · by_cases e : kl = fkey p
    · subst e
      rw [Maps.has_put_same h.own.isMap (fkey_lit hlen)]
      exact ⟨fun _ => ⟨_, Tq.mem_ins.2 (Or.inl rfl), rfl⟩, fun _ => rfl⟩
    · rw [Maps.has_put_other e, h.has]
      constructor
      · rintro ⟨x, hx, e2⟩
        exact ⟨x, Tq.mem_ins.2 (Or.inr hx), e2⟩
      · rintro ⟨x, hx, e2⟩
        rcases hcase x hx with e3 | e3
        · exact absurd (by rw [e2, e3]) e
        · exact ⟨x, e3.1, e2⟩
  · rcases hcase x hx with e | e
    · rw [e, Maps.atKey_put_same h.own.isMap (fkey_lit hlen)]
      simp
    · rw [Maps.atKey_put_other (fun e2 => e.2 (fkey_inj e2)), if_neg e.2]
      exact h.at_ x e.1 z
  · rcases hcase x hx with e | e
    · simp only [e, if_pos]
      refine hfd.keep (fun k hk => ?_)
      rcases hk with rfl | hk
      · exact hkp _ hG.1 hbm
      · exact hkp k (hG.2 k hk) (fun e => hvm (e ▸ hk))
    · simp only [if_neg e.2]
      refine (h.node x e.1).keep (fun k hk => ?_)
      rcases hk with rfl | hk
      · exact hkp _ (h.gf x e.1).1 (h.p_m e.1)
      · exact hkp k ((h.gf x e.1).2 k hk) (fun e2 => h.v_m e.1 (e2 ▸ hk))
  · rcases hcase x hx with e | e
    · rcases hcase y hy with e' | e'
      · exact absurd (by rw [e, e']) hxy
      · simp only [e, if_neg e'.2, if_pos]
        exact ⟨Ne.symm (hap y e'.1).1, fun k hk hk2 => (hap y e'.1).2 k hk2 hk⟩
    · rcases hcase y hy with e' | e'
      · simp only [e', if_neg e.2, if_pos]
        exact hap x e.1
      · simp only [if_neg e.2, if_neg e'.2]
        exact h.apart x e.1 y e'.1 hxy
  · rcases hcase x hx with e | e
    · simp only [e, if_pos]
      exact hG
    · simp only [if_neg e.2]
      exact h.gf x e.1
theorem TkU.more {G' : Nat → Prop} (h : TkU w q t G m D P V) (hs : ∀ k, G k → G' k) (hl : ∀ k, G' k → k < w.heap.size) : TkU w q t G' m D P V :=
  ⟨h.blk, h.own, h.sz, h.has, h.at_, h.node, h.apart, hs q h.gq, hs m h.gm, fun f hf => ⟨hs _ (h.gf f hf).1, fun k e => hs k ((h.gf f hf).2 k e)⟩, hl⟩
theorem TkU.there (h : TkU w q t G m D P V) {p : ByteArray} {n : Kq.Kn} (hf : Tq.find t.l p = some n) : Maps.has D (fkey p) = true ∧ ∀ z, D.atKey (fkey p) z = .held (P p) := ⟨(h.has _).2 ⟨_, Tq.find_some hf, rfl⟩, h.at_ _ (Tq.find_some hf)⟩
theorem TkU.nowhere (h : TkU w q t G m D P V) {p : ByteArray} (hf : Tq.find t.l p = none) : Maps.has D (fkey p) = false := by
  cases hh : Maps.has D (fkey p) with
  | false => rfl
  | true =>
    obtain ⟨x, hx, e⟩ := (h.has _).1 hh
    exact absurd (List.mem_map.2 ⟨x, hx, (fkey_inj e).symm⟩) (Tq.find_none hf)
end
end Go.Proofs.YtboejbjobjhajaaGreatDoor
namespace Go.Proofs.YtboejbjobjhajaaGreatDoor.Tq
open Kq
def placeT (t : Tr) (o : O) : ByteArray × Int :=
  match up o.path with
  | none => (o.path, 0)
  | some u => match find t.l u with
    | none => (⟨#[]⟩, 4)
    | some m => if m.owner ≠ 0 then (⟨#[]⟩, 8) else if 2 ≤ o.flags then (match num o.path m.next with | none => (⟨#[]⟩, 1) | some q => (q, 0)) else (o.path, 0)
def mayT (t : Tr) (p : ByteArray) : Int := match find t.l p with
  | some _ => 5
  | none => if t.room ≤ (t.l.length : Int) then 9 else 0
def ownT (o : O) (s : Int) : Int := if o.flags = 1 ∨ o.flags = 3 then s else 0
def abv (l : List En) (p : ByteArray) : Option (ByteArray × Kn) := match up p with
  | none => none
  | some u => (find l u).map fun n => (u, n)
theorem make_may {t : Tr} {u : Option ByteArray} {p d : ByteArray} {own z : Int} : makeAt t u p own z d = if mayT t p ≠ 0 then (fail (mayT t p), t) else (told p ⟨#[]⟩ [] (new z own d), { t with l := ins (named t.l u p) p (new z own d) }) := by
  unfold makeAt mayT
  cases find t.l p with
  | some n => simp
  | none =>
    simp only []
    by_cases h : t.room ≤ (t.l.length : Int)
    · simp [h]
    · simp [h]
theorem create_no {t : Tr} {o : O} {s z : Int} (h : (placeT t o).2 ≠ 0) : create t o s z = (fail (placeT t o).2, t) := by
  unfold placeT at h ⊢
  unfold create
  simp only []
  cases hu : up o.path with
  | none => rw [hu] at h; exact absurd rfl h
  | some u =>
    rw [hu] at h
    simp only [] at h ⊢
    cases hf : find t.l u with
    | none => rfl
    | some m =>
      rw [hf] at h
      simp only [] at h ⊢
      by_cases ho : m.owner ≠ 0
      · rw [if_pos ho, if_pos ho]
      · rw [if_neg ho] at h ⊢
        rw [if_neg ho]
        by_cases h2 : 2 ≤ o.flags
        · rw [if_pos h2] at h ⊢
          rw [if_pos h2]
          cases hn : num o.path m.next with
          | none => rfl
          | some q => rw [hn] at h; exact absurd rfl h
        · rw [if_neg h2] at h
          exact absurd rfl h
theorem create_may {t : Tr} {o : O} {s z : Int} (hg : Pl.goodB o.path.data.toList = true) (h : (placeT t o).2 = 0) : create t o s z = makeAt t (up (placeT t o).1) (placeT t o).1 (ownT o s) z o.data ∧ Pl.goodB (placeT t o).1.data.toList = true := by
  unfold placeT at h ⊢
  unfold create ownT
  simp only []
  cases hu : up o.path with
  | none => simp only [hu]; exact ⟨trivial, hg⟩
  | some u =>
    rw [hu] at h
    simp only [] at h ⊢
    cases hf : find t.l u with
    | none => rw [hf] at h; cases h
    | some m =>
      rw [hf] at h
      simp only [] at h ⊢
      by_cases ho : m.owner ≠ 0
      · rw [if_pos ho] at h; cases h
      · rw [if_neg ho] at h ⊢
        rw [if_neg ho]
        by_cases h2 : 2 ≤ o.flags
        · rw [if_pos h2] at h ⊢
          rw [if_pos h2]
          cases hn : num o.path m.next with
          | none => rw [hn] at h; cases h
          | some q =>
            simp only []
            rw [up_num hg hn, hu]
            exact ⟨rfl, num_ok hn⟩
        · rw [if_neg h2, if_neg h2]
          simp only []
          rw [hu]
          exact ⟨rfl, hg⟩
theorem up_ne {p u : ByteArray} (hp : Pl.goodB p.data.toList = true) (h : up p = some u) : u ≠ p := fun e => by
  obtain ⟨h1, _⟩ := up_sub hp h
  have h2 := congrArg (fun x : ByteArray => x.data.toList.length) h1
  unfold sub at h2
  simp only [tb_data, e, List.length_append, List.length_cons] at h2
  omega
theorem made_abv {t : Tr} (hf : Fine11 t) {p : ByteArray} {n : Kn} (hp : Pl.goodB p.data.toList = true) (hn : find t.l p = none) : ins (named t.l (up p) p) p n = match abv (ins t.l p n) p with
    | none => ins t.l p n
    | some um => set (ins t.l p n) um.1 (add um.2 (nm p)) := by
  unfold named abv
  cases hu : up p with
  | none => rfl
  | some u =>
    have hne := up_ne hp hu
    simp only []
    rw [find_ins n hf.rise hn, if_neg hne]
    cases find t.l u with
    | none => rfl
    | some m =>
      simp only [Option.map_some]
      rw [set_ins (Ne.symm hne)]
theorem gone_abv {t : Tr} {p : ByteArray} : orphan (del t.l p) p = match abv (del t.l p) p with
    | none => del t.l p
    | some um => set (del t.l p) um.1 (remove um.2 (nm p)) := by
  unfold orphan abv
  cases up p with
  | none => rfl
  | some u =>
    simp only []
    cases find (del t.l p) u with
    | none => rfl
    | some m => rfl
theorem abv_some {l : List En} {p : ByteArray} {um : ByteArray × Kn} (h : abv l p = some um) : up p = some um.1 ∧ find l um.1 = some um.2 := by
  unfold abv at h
  cases hu : up p with
  | none => rw [hu] at h; cases h
  | some u =>
    rw [hu] at h
    simp only [] at h
    cases hf : find l u with
    | none => rw [hf] at h; cases h
    | some m =>
      rw [hf] at h
      simp only [Option.map_some, Option.some.injEq] at h
      rw [← h]
      exact ⟨rfl, hf⟩
end Go.Proofs.YtboejbjobjhajaaGreatDoor.Tq
namespace Go.Proofs.YtboejbjobjhajaaGreatDoor
open Go.RowKit
theorem tb_of2 {x : ByteArray} {l : List UInt8} (h : x.data.toList = l) : x = Tq.tb l := by rw [← h, Tq.tb_back]
theorem parent_up (p : ByteArray) (w : World) (hS : Pa.Std w) (hg : Pl.goodB p.data.toList = true) :
    Calls Tryz.prog 103 #[.string p] w fun e w' => Below w.heap.size w w' ∧ (∀ u, Tq.up p = some u → e = .returned (.tuple #[.string u, .bool true])) ∧ (Tq.up p = none → e = .returned (.tuple #[.string ⟨#[]⟩, .bool false])) := by
  by_cases h2 : 2 ≤ (Pl.parts p.data.toList).length
  · refine (Pa.parent_yes p w hS hg h2).mono ?_
    rintro e w' ⟨x, rfl, hx, hb⟩
    refine ⟨hb, fun u hu => ?_, fun hu => ?_⟩
    · unfold Tq.up at hu
      rw [if_pos h2] at hu
      rw [tb_of2 hx, ← Option.some.inj hu]
    · unfold Tq.up at hu
      rw [if_pos h2] at hu
      cases hu
  · refine (Pa.parent_no p w hS (good_max hg) (by omega)).mono ?_
    rintro e w' ⟨rfl, hb⟩
    refine ⟨hb, fun u hu => ?_, fun _ => rfl⟩
    unfold Tq.up at hu
    rw [if_neg h2] at hu
    cases hu
theorem name_nm (p : ByteArray) (w : World) (hS : Pa.Std w) (hg : Pl.goodB p.data.toList = true) :
    Calls Tryz.prog 171 #[.string p] w fun e w' => e = .returned (.string (Tq.nm p)) ∧ Below w.heap.size w w' := by
  refine (Pa.name_any p w hS hg).mono ?_
  rintro e w' ⟨x, rfl, hx, hb⟩
  rw [tb_of2 hx]
  exact ⟨rfl, hb⟩
theorem number_num (p : ByteArray) (k : Int) (w : World) (hS : Pa.Std w) (hg : Pl.goodB p.data.toList = true) :
    Calls Tryz.prog 157 #[.string p, .int .i64 k] w fun e w' => Below w.heap.size w w' ∧ (∀ q, Tq.num p k = some q → e = .returned (.tuple #[.string q, .int .i64 0])) ∧ (Tq.num p k = none → e = .returned (.tuple #[.string ⟨#[]⟩, .int .i64 1])) := by
  by_cases hk : 0 ≤ k ∧ k ≤ 2147483647
  · refine (Pa.number_any p k w hS hg hk.1 hk.2).mono ?_
    rintro e w' (⟨x, rfl, hx, h1, hb⟩ | ⟨rfl, h1, hb⟩)
    · have e1 : Tq.num p k = some x := by unfold Tq.num; rw [if_pos ⟨hk.1, hk.2, h1⟩, tb_of2 hx]
      refine ⟨hb, fun q hq => ?_, fun hq => ?_⟩
      · rw [e1] at hq
        rw [Option.some.inj hq]
      · rw [e1] at hq
        cases hq
    · have e1 : Tq.num p k = none := by unfold Tq.num; rw [if_neg (by rw [h1]; simp)]
      refine ⟨hb, fun q hq => ?_, fun _ => rfl⟩
      rw [e1] at hq
      cases hq
  · refine (Pa.number_no p k w hS (good_max hg) (Or.inr (by omega))).mono ?_
    rintro e w' ⟨rfl, hb⟩
    refine ⟨hb, fun q hq => ?_, fun _ => rfl⟩
    unfold Tq.num at hq
    rw [if_neg (by omega)] at hq
    cases hq
end Go.Proofs.YtboejbjobjhajaaGreatDoor
namespace Go.Proofs.YtboejbjobjhajaaGreatDoor
open Go.RowKit

theorem zeroPtr11 (w : World) : (zeroValue 151).run Tryz.prog w = .ok (.pointer none) w := by kernel_rfl

set_option maxRecDepth 20000 in
set_option maxHeartbeats 1000000 in
theorem new_no11 (n : Int) (w : World) (h : n < 1 ∨ 500 < n) : Calls Tryz.prog 42 #[.int .i64 n] w fun e w' => e = .returned (.tuple #[.pointer none, .int .i64 1]) ∧ w' = w := by
  by_cases h1 : n < 1
  · clear h
    go_enter Tryz.func42, Tryz.ntmps42
    go_wp2
    go_ret2
    exact ⟨rfl, rfl⟩
  · have h2 : 500 < n := h.resolve_left h1
    clear h
    go_enter Tryz.func42, Tryz.ntmps42
    go_wp2
    go_ret2
    exact ⟨rfl, rfl⟩

set_option maxRecDepth 20000 in
set_option maxHeartbeats 1000000 in
theorem new_yes11 (n : Int) (w : World) (h1 : ¬ n < 1) (h2 : ¬ 500 < n) : Calls Tryz.prog 42 #[.int .i64 n] w fun e w' => e = .returned (.tuple #[dptr (w.heap.size + 1), .int .i64 0]) ∧ w' = (w.alloc (.map #[] 0)).alloc (.cells #[.map (some w.heap.size), .int .i64 n] 113) := by
  have hmm := @run_makeMap Tryz.prog
  go_enter Tryz.func42, Tryz.ntmps42
  go_wp2
  go_ret2
  exact ⟨rfl, rfl⟩

theorem new_any11 (n : Int) (w : World) : Calls Tryz.prog 42 #[.int .i64 n] w fun e w' => Below w.heap.size w w' ∧
    if n < 1 ∨ 500 < n then e = .returned (.tuple #[.pointer none, .int .i64 1]) else ∃ q F, e = .returned (.tuple #[dptr q, .int .i64 0]) ∧ LTk w' q ⟨n, []⟩ F ∧ ∀ k, F k → w.heap.size ≤ k := by
  by_cases h : n < 1 ∨ 500 < n
  · refine (new_no11 n w h).mono ?_
    rintro e w' ⟨rfl, rfl⟩
    rw [if_pos h]
    exact ⟨Below.refl _ _, rfl⟩
  · refine (new_yes11 n w (by omega) (by omega)).mono ?_
    rintro e w' ⟨rfl, rfl⟩
    rw [if_neg h]
    have hb1 : Below w.heap.size w (w.alloc (.map #[] 0)) := (Below.refl _ w).alloc (Nat.le_refl _) _
    have hb2 := hb1.alloc hb1.size (.cells #[.map (some w.heap.size), .int .i64 n] 113)
    have hs1 : (w.alloc (.map #[] 0)).heap.size = w.heap.size + 1 := by simp
    obtain ⟨w1, hw1⟩ : ∃ w1, w1 = w.alloc (.map #[] 0) := ⟨_, rfl⟩
    have hown : w1.ownsMap Tryz.prog 9 fElem w.heap.size 0 (.map []) := by rw [hw1]; exact World.ownsMap_made w _ _ _
    rw [← hw1] at hb1 hb2 hs1 ⊢
    refine ⟨hb2, w.heap.size + 1, fun k => k = w.heap.size ∨ k = w.heap.size + 1, rfl, ⟨w.heap.size, .map [], fun _ => 0, fun _ => .slice none 0 0, ⟨?_, hown.alloc _, rfl, fun kl => ?_, fun f hf => (by cases hf), fun f hf => (by cases hf), fun f hf => (by cases hf), Or.inr rfl, Or.inl rfl, fun f hf => (by cases hf), fun k hk => ?_⟩⟩, fun k hk => by omega⟩
    · have := Cb.made w1 [.map (some w.heap.size), .int .i64 n] 113
      rw [hs1] at this
      exact this
    · constructor
      · intro h
        cases h
      · rintro ⟨f, hf, _⟩
        cases hf
    · have h2 : (w1.alloc (.cells #[.map (some w.heap.size), .int .i64 n] 113)).heap.size = w1.heap.size + 1 := by simp
      rw [h2]
      omega

section
variable {w : World} {q m : Nat} {t : Tq.Tr} {G : Nat → Prop} {D : DataW Nat} {P : ByteArray → Nat} {V : ByteArray → Value}

set_option maxRecDepth 20000 in
set_option maxHeartbeats 1000000 in
theorem len_any11 (h : TkU w q t G m D P V) : Calls Tryz.prog 20 #[dptr q] w fun e w' => e = .returned (.int .i64 (t.l.length : Int)) ∧ w' = w := by
  have HO : Hid (w.ownsMap Tryz.prog 9 fElem m t.l.length D ∧ Maps.size D = t.l.length) := ⟨h.own, h.sz⟩
  have c0 : w.cell? ⟨q, 0, none⟩ = some (.map (some m)) := h.blk.cell 0
  clear h
  go_enter Tryz.func20, Tryz.ntmps20
  go_wp2_with (at_len; refine wpList_len_own _ rfl _ 111 rfl 9 151 Tryz.underlying111 fElem m t.l.length D rfl HO.out.1 ?_)
  rw [HO.out.2]
  go_wp2
  go_ret
  exact ⟨rfl, rfl⟩

set_option maxRecDepth 20000 in
set_option maxHeartbeats 2000000 in
theorem mayLay_any11 (p : ByteArray) (h : TkU w q t G m D P V) (hp : p.size ≤ maxLen) :
    Calls Tryz.prog 126 #[dptr q, .string p] w fun e w' => e = .returned (.int .i64 (Tq.mayT t p)) ∧ Below w.heap.size w w' := by
  have HD : Hid (TkU w q t G m D P V) := h
  have HK : Hid (keyOf Tryz.prog 9 (.string p) = some (fkey p)) := key_of hp
  have c0 : w.cell? ⟨q, 0, none⟩ = some (.map (some m)) := h.blk.cell 0
  have c1 : w.cell? ⟨q, 1, none⟩ = some (.int .i64 t.room) := h.blk.cell 1
  clear h hp
  unfold Tq.mayT
  cases hf : Tq.find t.l p with
  | some n =>
    have HN : Hid (Maps.has D (fkey p) = true ∧ ∀ z, D.atKey (fkey p) z = .held (P p)) := HD.out.there hf
    clear hf
    go_enter Tryz.func126, Tryz.ntmps126
    go_wp2_with (at_lookup; refine wpList_lookup_own_ok _ rfl _ _ 111 rfl 9 151 keyed11 Tryz.underlying111 fElem (zeroPtr11 _) .nil [] rfl m t.l.length D rfl HD.out.own (.string p) (fkey p) rfl HK.out ?_)
    intro v ps hv
    rw [HN.out.2] at hv
    obtain rfl := fElem_held hv
    rw [HN.out.1]
    clear hv
    go_wp2
    go_ret
    exact ⟨rfl, Below.refl _ _⟩
  | none =>
    have HN : Hid (Maps.has D (fkey p) = false) := HD.out.nowhere hf
    clear hf
    simp only []
    by_cases hl : t.room ≤ (t.l.length : Int)
    · rw [if_pos hl]
      go_enter Tryz.func126, Tryz.ntmps126
      go_wp2_with (at_lookup; refine wpList_lookup_own_ok _ rfl _ _ 111 rfl 9 151 keyed11 Tryz.underlying111 fElem (zeroPtr11 _) .nil [] rfl m t.l.length D rfl HD.out.own (.string p) (fkey p) rfl HK.out ?_)
      intro v ps hv
      rw [Maps.atKey_of_not_has HN.out] at hv
      obtain rfl := fElem_nil hv
      rw [HN.out]
      clear hv
      have hln : ∀ n, (Builtin.len_ #[111] 3 #[.map (some m)]).run Tryz.prog (w.drewN n) = .ok (.int .i64 (t.l.length : Int)) (w.drewN n) := fun n => by
        have h := ((HD.out.below (below_drewN (Below.refl _ w) n)).own.len Tryz.underlying111 3)
        rw [HD.out.sz] at h
        exact h
      go_wp2
      go_quiet (fail)
      clear hln
      go_wp2
      go_ret
      exact ⟨rfl, below_drewN (Below.refl _ w) _⟩
    · rw [if_neg hl]
      go_enter Tryz.func126, Tryz.ntmps126
      go_wp2_with (at_lookup; refine wpList_lookup_own_ok _ rfl _ _ 111 rfl 9 151 keyed11 Tryz.underlying111 fElem (zeroPtr11 _) .nil [] rfl m t.l.length D rfl HD.out.own (.string p) (fkey p) rfl HK.out ?_)
      intro v ps hv
      rw [Maps.atKey_of_not_has HN.out] at hv
      obtain rfl := fElem_nil hv
      rw [HN.out]
      clear hv
      have hln : ∀ n, (Builtin.len_ #[111] 3 #[.map (some m)]).run Tryz.prog (w.drewN n) = .ok (.int .i64 (t.l.length : Int)) (w.drewN n) := fun n => by
        have h := ((HD.out.below (below_drewN (Below.refl _ w) n)).own.len Tryz.underlying111 3)
        rw [HD.out.sz] at h
        exact h
      go_wp2
      go_quiet (fail)
      clear hln
      go_wp2
      go_ret
      exact ⟨rfl, below_drewN (Below.refl _ w) _⟩

set_option maxRecDepth 20000 in
set_option maxHeartbeats 2000000 in
theorem above_any11 (p : ByteArray) (h : TkU w q t G m D P V) (hS : Pa.Std w) (hg : Pl.goodB p.data.toList = true) :
    Calls Tryz.prog 158 #[dptr q, .string p] w fun e w' => Below w.heap.size w w' ∧ (∀ um, Tq.abv t.l p = some um → e = .returned (.tuple #[dptr (P um.1), .bool true])) ∧ (Tq.abv t.l p = none → e = .returned (.tuple #[.pointer none, .bool false])) := by
  have HD : Hid (TkU w q t G m D P V) := h
  have HP : Hid (Calls Tryz.prog 103 #[.string p] w fun e w' => Below w.heap.size w w' ∧ (∀ u, Tq.up p = some u → e = .returned (.tuple #[.string u, .bool true])) ∧ (Tq.up p = none → e = .returned (.tuple #[.string ⟨#[]⟩, .bool false]))) := parent_up p w hS hg
  cases hu : Tq.up p with
  | none =>
    have HA : Hid (Tq.abv t.l p = none) := by
      have e : Tq.abv t.l p = none := by unfold Tq.abv; rw [hu]
      exact e
    have HU : Hid (Tq.up p = none) := hu
    clear h hS hg hu
    go_enter Tryz.func158, Tryz.ntmps158
    go_wp2_with fail
    refine HP.out.mono ?_
    rintro e w1 ⟨hb, _, he⟩
    obtain rfl := he HU.out
    have HB : Hid (Below w.heap.size w w1) := hb
    clear hb he
    go_wp2
    go_ret2
    exact ⟨HB.out, fun um hum => by (rw [HA.out] at hum; cases hum), fun _ => rfl⟩
  | some u =>
    have HU : Hid (Tq.up p = some u) := hu
    have HK : Hid (keyOf Tryz.prog 9 (.string u) = some (fkey u)) := key_of (good_max (Tq.up_sub hg hu).2)
    cases hn : Tq.find t.l u with
    | none =>
      have HA : Hid (Tq.abv t.l p = none) := by
        have e : Tq.abv t.l p = none := by unfold Tq.abv; rw [hu]; simp only []; rw [hn]; rfl
        exact e
      have HN : Hid (Maps.has D (fkey u) = false) := h.nowhere hn
      clear h hS hg hu hn
      go_enter Tryz.func158, Tryz.ntmps158
      go_wp2_with fail
      refine HP.out.mono ?_
      rintro e w1 ⟨hb, he, _⟩
      obtain rfl := he u HU.out
      have HB : Hid (Below w.heap.size w w1) := hb
      have HE : Hid (TkU w1 q t G m D P V) := HD.out.below hb
      have c0 : w1.cell? ⟨q, 0, none⟩ = some (.map (some m)) := HE.out.blk.cell 0
      clear hb he
      go_wp2_with (at_lookup; refine wpList_lookup_own_ok _ rfl _ _ 111 rfl 9 151 keyed11 Tryz.underlying111 fElem (zeroPtr11 _) .nil [] rfl m t.l.length D rfl HE.out.own (.string u) (fkey u) rfl HK.out ?_)
      intro v ps hv
      rw [Maps.atKey_of_not_has HN.out] at hv
      obtain rfl := fElem_nil hv
      rw [HN.out]
      clear hv c0
      go_wp2
      go_ret2
      exact ⟨HB.out, fun um hum => by (rw [HA.out] at hum; cases hum), fun _ => rfl⟩
    | some n =>
      have HA : Hid (Tq.abv t.l p = some (u, n)) := by
        have e : Tq.abv t.l p = some (u, n) := by unfold Tq.abv; rw [hu]; simp only []; rw [hn]; rfl
        exact e
      have HN : Hid (Maps.has D (fkey u) = true ∧ ∀ z, D.atKey (fkey u) z = .held (P u)) := h.there hn
      obtain ⟨b, hb⟩ : ∃ b, b = P u := ⟨_, rfl⟩
      have HBU : Hid (b = P u) := hb
      rw [← hb] at HN
      clear h hS hg hu hn hb
      go_enter Tryz.func158, Tryz.ntmps158
      go_wp2_with fail
      refine HP.out.mono ?_
      rintro e w1 ⟨hb, he, _⟩
      obtain rfl := he u HU.out
      have HB : Hid (Below w.heap.size w w1) := hb
      have HE : Hid (TkU w1 q t G m D P V) := HD.out.below hb
      have c0 : w1.cell? ⟨q, 0, none⟩ = some (.map (some m)) := HE.out.blk.cell 0
      clear hb he
      go_wp2_with (at_lookup; refine wpList_lookup_own_ok _ rfl _ _ 111 rfl 9 151 keyed11 Tryz.underlying111 fElem (zeroPtr11 _) .nil [] rfl m t.l.length D rfl HE.out.own (.string u) (fkey u) rfl HK.out ?_)
      intro v ps hv
      rw [HN.out.2] at hv
      obtain rfl := fElem_held hv
      rw [HN.out.1]
      clear hv c0
      go_wp2
      go_ret2
      exact ⟨HB.out, fun um hum => by (rw [HA.out] at hum; rw [← Option.some.inj hum, ← HBU.out]; rfl), fun hum => by (rw [HA.out] at hum; cases hum)⟩
end
end Go.Proofs.YtboejbjobjhajaaGreatDoor
namespace Go.Proofs.YtboejbjobjhajaaGreatDoor
open Go.RowKit

set_option maxRecDepth 20000 in
set_option maxHeartbeats 4000000 in
theorem fill_any11 (q : Nat) (n : Kq.Kn) (v : Value) (z : Int) (d : ByteArray) (w : World) (h : Cb w q (k10 n v) 175) (hd : d.size ≤ 20000) :
    Calls Tryz.prog 160 #[dptr q, .int .i64 z, .string d] w fun e w' => e = .returned (.tuple #[]) ∧ Cb w' q (k10 (Kq.fill n z d) v) 175 ∧ w.grownBy w' (some q) := by
  have HC : Hid (∀ w, Calls Tryz.prog 97 #[.string d] w fun e w' => e = .returned (.string d) ∧ Below w.heap.size w w') := fun w => sclone_any10 d w (by omega)
  have HN : Hid (Cb w q (k10 n v) 175) := h
  clear h
  unfold dptr
  go_enter Tryz.func160, Tryz.ntmps160
  go_wp2_with fail
  refine (HC.out _).mono ?_
  rintro e w1 ⟨rfl, hb⟩
  have HB : Hid (Below w.heap.size w w1) := hb
  have HN1 : Hid (Cb w1 q (k10 n v) 175) := HN.out.below hb
  clear hb
  have c7 : w1.cell? ⟨q, 7, none⟩ = some (.string n.data) := HN1.out.cell 7
  have c1 : w1.cell? ⟨q, 1, none⟩ = some (.int .i64 n.changed) := HN1.out.cell 1
  have c5 : w1.cell? ⟨q, 5, none⟩ = some (.int .i64 n.len) := HN1.out.cell 5
  have f7 := HN1.out.free 7
  have f1 := HN1.out.free 1
  have f5 := HN1.out.free 5
  go_wp2
  go_end0
  refine ⟨rfl, ((HN1.out.set 7 _).set 1 _).set 5 _, grown_set (grown_set (grown_set (grownBy_below HB.out) _) _) _⟩

set_option maxRecDepth 20000 in
set_option maxHeartbeats 4000000 in
theorem write_any11 (q : Nat) (n : Kq.Kn) (v : Value) (z : Int) (d : ByteArray) (w : World) (h : Cb w q (k10 n v) 175) (hf : Fine10 n) (hd : d.size ≤ 20000) :
    Calls Tryz.prog 129 #[dptr q, .int .i64 z, .string d] w fun e w' => e = .returned (.tuple #[]) ∧ Cb w' q (k10 (Kq.write n z d) v) 175 ∧ w.grownBy w' (some q) := by
  have HF : Hid (Calls Tryz.prog 160 #[.pointer (some ⟨q, 0, none⟩), .int .i64 z, .string d] w fun e w' => e = .returned (.tuple #[]) ∧ Cb w' q (k10 (Kq.fill n z d) v) 175 ∧ w.grownBy w' (some q)) := fill_any11 q n v z d w h hd
  have HM : Hid (∀ w, Calls Tryz.prog 161 #[.int .i64 n.ver] w fun e w' => e = .returned (.int .i64 (Kq.more n.ver)) ∧ w' = w) := fun w => oneMore_any10 n.ver w hf.ver
  clear h
  unfold dptr
  go_enter Tryz.func129, Tryz.ntmps129
  go_wp2_with fail
  refine HF.out.mono ?_
  rintro e w1 ⟨rfl, hc, hg⟩
  have HN1 : Hid (Cb w1 q (k10 (Kq.fill n z d) v) 175) := hc
  have HG : Hid (w.grownBy w1 (some q)) := hg
  clear hc hg
  have c2 : w1.cell? ⟨q, 2, none⟩ = some (.int .i64 n.ver) := HN1.out.cell 2
  have f2 := HN1.out.free 2
  go_wp2_with fail
  refine (HM.out _).mono ?_
  rintro e w2 ⟨rfl, hw⟩
  rw [hw]
  clear hw w2
  go_wp2
  go_end0
  exact ⟨rfl, HN1.out.set 2 _, grown_set HG.out _⟩

set_option maxRecDepth 20000 in
set_option maxHeartbeats 1000000 in
theorem eph_any11 (q : Nat) (n : Kq.Kn) (v : Value) (w : World) (h : Cb w q (k10 n v) 175) :
    Calls Tryz.prog 159 #[dptr q] w fun e w' => e = .returned (.bool (decide (n.owner ≠ 0))) ∧ Below w.heap.size w w' := by
  have c4 : w.cell? ⟨q, 4, none⟩ = some (.int .i64 n.owner) := h.cell 4
  clear h
  unfold dptr
  go_enter Tryz.func159, Tryz.ntmps159
  go_wp2
  go_ret
  exact ⟨by simp [bne, BEq.beq], Below.refl _ _⟩

def Kq.hold (n : Kq.Kn) (l : List ByteArray) : Kq.Kn := { n with names := l, kids := Kq.more n.kids, cnt := (l.length : Int) }

set_option maxRecDepth 20000 in
set_option maxHeartbeats 4000000 in
theorem hold_any11 (q : Nat) (n : Kq.Kn) (v p : Value) (ps : List (List ByteArray)) (w : World) (h : Cb w q (k10 n v) 175) (hf : -9223372036854775808 ≤ n.kids ∧ n.kids ≤ 9223372036854775807) (hp : Pcs w p ps) (hl : ps.length ≤ 1000) (hN : ps.flatten.length ≤ 3000) :
    Calls Tryz.prog 216 #[dptr q, p] w fun e w' => ∃ v', e = .returned (.tuple #[]) ∧ Cb w' q (k10 (Kq.hold n ps.flatten) v') 175 ∧ w'.ownsRow w.heap.size 9 1 v' ps.flatten.length (sc ps.flatten) ∧ w.grownBy w' (some q) := by
  have HC : Hid (Calls Tryz.prog 242 #[p] w fun e w' => ∃ a c, e = .returned (.slice a ps.flatten.length c) ∧ w'.ownsRow w.heap.size 9 1 (.slice a ps.flatten.length c) ps.flatten.length (sc ps.flatten) ∧ Below w.heap.size w w') := concat_any10 p ps w hp hl hN
  have HM : Hid (∀ w, Calls Tryz.prog 161 #[.int .i64 n.kids] w fun e w' => e = .returned (.int .i64 (Kq.more n.kids)) ∧ w' = w) := fun w => oneMore_any10 n.kids w hf
  have HN : Hid (Cb w q (k10 n v) 175) := h
  obtain ⟨l, hl⟩ : ∃ l, l = ps.flatten := ⟨_, rfl⟩
  rw [← hl] at HC
  rw [← hl]
  obtain ⟨g, o, c, rfl, _⟩ := hp
  clear h hl hN
  unfold dptr
  go_enter Tryz.func216, Tryz.ntmps216
  go_wp2_with fail
  refine HC.out.mono ?_
  rintro e w1 ⟨a1, c1, rfl, ho, hb⟩
  have HN1 : Hid (Cb w1 q (k10 n v) 175) := HN.out.below hb
  have HO1 : Hid (w1.ownsRow w.heap.size 9 1 (.slice a1 l.length c1) l.length (sc l) ∧ Below w.heap.size w w1) := ⟨ho, hb⟩
  obtain ⟨N, hN⟩ : ∃ N, N = l.length := ⟨_, rfl⟩
  rw [← hN]
  rw [← hN] at HO1
  have HNL : Hid (N = l.length) := hN
  clear ho hb hN
  have c9 : w1.cell? ⟨q, 9, none⟩ = some v := HN1.out.cell 9
  have f9 := HN1.out.free 9
  go_wp2_with fail
  clear c9 f9
  have HN2 : Hid (Cb (w1.setCell ⟨q, 9, none⟩ (.slice a1 N c1)) q (k10 { n with names := l } (.slice a1 N c1)) 175) := HN1.out.set 9 _
  have HO2 : Hid ((w1.setCell ⟨q, 9, none⟩ (.slice a1 N c1)).ownsRow w.heap.size 9 1 (.slice a1 N c1) N (sc l) ∧ w.grownBy (w1.setCell ⟨q, 9, none⟩ (.slice a1 N c1)) (some q)) := ⟨row_stays HO1.out.1 (fun k hk => RowKit.Below.heap_setCell _ _ _ _ (fun e => HN1.out.apart HO1.out.1 (by decide) (by rw [hk]; exact congrArg some e))), grown_set (grownBy_below HO1.out.2) _⟩
  generalize w1.setCell ⟨q, 9, none⟩ (.slice a1 N c1) = w2 at *
  refine wp_region_U (fun w' => w'.cell? ⟨q, 3, none⟩ = some (.int .i64 n.kids) ∧ w'.cell? ⟨q, 9, none⟩ = some (.slice a1 N c1)) [16, 20] (by kernel_rfl) ?_
  have HS : Hid (w2.drew.cell? ⟨q, 3, none⟩ = some (.int .i64 n.kids) ∧ w2.drew.cell? ⟨q, 9, none⟩ = some (.slice a1 N c1)) := ⟨HN2.out.cell 3, HN2.out.cell 9⟩
  have HN3 : Hid (Cb w2.drew q (k10 { n with names := l } (.slice a1 N c1)) 175) := HN2.out
  have HO3 : Hid (w2.drew.ownsRow w.heap.size 9 1 (.slice a1 N c1) N (sc l) ∧ w.grownBy w2.drew (some q)) := ⟨row_stays HO2.out.1 (fun _ _ => rfl), grownBy_trans HO2.out.2 (grownBy_drew w2 (some q))⟩
  clear HN2 HO2
  generalize w2.drew = w3 at *
  refine' take_U (i := 0) (d := 9) (v := _) rfl rfl (by kernel_rfl) (by kernel_rfl) (by kernel_rfl) (by kernel_rfl) (by kernel_rfl) (by kernel_rfl) (fun _ _ _ h => h) (Or.inl ⟨by rfl, ?h0⟩) (HS.out) ?_
  case h0 =>
    intro w hSw
    obtain ⟨hS3, hS9⟩ := hSw
    go_simp
    with_reducible rfl
  simp only [List.setIfInBounds_toArray, List.set_cons_zero, List.set_cons_succ]
  refine' take_U (i := 2) (d := 11) (v := _) rfl rfl (by kernel_rfl) (by kernel_rfl) (by kernel_rfl) (by kernel_rfl) (by kernel_rfl) (by kernel_rfl) (fun _ _ _ h => h) (Or.inl ⟨by rfl, ?h2⟩) (HS.out) ?_
  case h2 =>
    intro w hSw
    obtain ⟨hS3, hS9⟩ := hSw
    go_simp
    with_reducible rfl
  simp only [List.setIfInBounds_toArray, List.set_cons_zero, List.set_cons_succ]
  refine' take_U (i := 3) (d := 12) (v := _) rfl rfl (by kernel_rfl) (by kernel_rfl) (by kernel_rfl) (by kernel_rfl) (by kernel_rfl) (by kernel_rfl) (fun _ _ _ h => h) (Or.inl ⟨by rfl, ?h3⟩) (HS.out) ?_
  case h3 =>
    intro w hSw
    obtain ⟨hS3, hS9⟩ := hSw
    go_simp
    with_reducible rfl
  simp only [List.setIfInBounds_toArray, List.set_cons_zero, List.set_cons_succ]
  refine' take_U (i := 4) (d := 13) (v := _) rfl rfl (by kernel_rfl) (by kernel_rfl) (by kernel_rfl) (by kernel_rfl) (by kernel_rfl) (by kernel_rfl) (fun _ _ _ h => h) (Or.inl ⟨by rfl, ?h4⟩) (HS.out) ?_
  case h4 =>
    intro w hSw
    obtain ⟨hS3, hS9⟩ := hSw
    go_simp
    with_reducible rfl
  simp only [List.setIfInBounds_toArray, List.set_cons_zero, List.set_cons_succ]
  refine' take_U (i := 5) (d := 14) (v := _) rfl rfl (by kernel_rfl) (by kernel_rfl) (by kernel_rfl) (by kernel_rfl) (by kernel_rfl) (by kernel_rfl) (fun _ _ _ h => h) (Or.inl ⟨by rfl, ?h5⟩) (HS.out) ?_
  case h5 =>
    intro w hSw
    obtain ⟨hS3, hS9⟩ := hSw
    go_simp
    with_reducible rfl
  simp only [List.setIfInBounds_toArray, List.set_cons_zero, List.set_cons_succ]
  refine' take_U (i := 6) (d := 15) (v := _) rfl rfl (by kernel_rfl) (by kernel_rfl) (by kernel_rfl) (by kernel_rfl) (by kernel_rfl) (by kernel_rfl) (fun _ _ _ h => h) (Or.inl ⟨by rfl, ?h6⟩) (HS.out) ?_
  case h6 =>
    intro w hSw
    obtain ⟨hS3, hS9⟩ := hSw
    go_simp
    with_reducible rfl
  simp only [List.setIfInBounds_toArray, List.set_cons_zero, List.set_cons_succ]
  refine' take_P (i := 1) (d := 10) (v := _) rfl rfl (by kernel_rfl) (by kernel_rfl) (by kernel_rfl) (by kernel_rfl) (by kernel_rfl) (fun _ _ _ h => h) (Or.inl ⟨by rfl, ?h1⟩) (fun _ => HS.out) ?_
  case h1 => intro w hSw; go_simp; with_reducible rfl
  simp only [List.setIfInBounds_toArray, List.set_cons_zero, List.set_cons_succ]
  refine' take_P (i := 8) (d := 17) (v := _) rfl rfl (by kernel_rfl) (by kernel_rfl) (by kernel_rfl) (by kernel_rfl) (by kernel_rfl) (fun _ _ _ h => h) (Or.inl ⟨by rfl, ?h8⟩) (fun _ => HS.out) ?_
  case h8 => intro w hSw; go_simp; with_reducible rfl
  simp only [List.setIfInBounds_toArray, List.set_cons_zero, List.set_cons_succ]
  refine' take_P (i := 9) (d := 18) (v := _) rfl rfl (by kernel_rfl) (by kernel_rfl) (by kernel_rfl) (by kernel_rfl) (by kernel_rfl) (fun _ _ _ h => h) (Or.inl ⟨by rfl, ?h9⟩) (fun _ => HS.out) ?_
  case h9 => intro w hSw; go_simp; with_reducible rfl
  simp only [List.setIfInBounds_toArray, List.set_cons_zero, List.set_cons_succ]
  refine' take_P (i := 10) (d := 19) (v := _) rfl rfl (by kernel_rfl) (by kernel_rfl) (by kernel_rfl) (by kernel_rfl) (by kernel_rfl) (fun _ _ _ h => h) (Or.inl ⟨by rfl, ?h10⟩) (fun _ => HS.out) ?_
  case h10 => intro w hSw; go_simp; with_reducible rfl
  simp only [List.setIfInBounds_toArray, List.set_cons_zero, List.set_cons_succ]
  refine' take_U (i := 11) (d := 20) (v := _) rfl rfl (by kernel_rfl) (by kernel_rfl) (by kernel_rfl) (by kernel_rfl) (by kernel_rfl) (by kernel_rfl) (fun _ _ _ h => h) (Or.inl ⟨by rfl, ?h11⟩) (HS.out) ?_
  case h11 =>
    intro w hSw
    obtain ⟨hS3, hS9⟩ := hSw
    go_simp
    with_reducible rfl
  simp only [List.setIfInBounds_toArray, List.set_cons_zero, List.set_cons_succ]
  refine' take_P (i := 12) (d := 21) (v := _) rfl rfl (by kernel_rfl) (by kernel_rfl) (by kernel_rfl) (by kernel_rfl) (by kernel_rfl) (fun _ _ _ h => h) (Or.inl ⟨by rfl, ?h12⟩) (fun _ => HS.out) ?_
  case h12 => intro w hSw; go_simp; with_reducible rfl
  simp only [List.setIfInBounds_toArray, List.set_cons_zero, List.set_cons_succ]
  refine wpAnyU_ready (rs := [7]) (by kernel_rfl) (by simp) ?_
  refine AllReadyU.cons (o := _) rfl (fun K hK => ?_) AllReadyU.nil
  go_simp
  refine (HM.out _).mono ?_
  rintro e w4 ⟨rfl, hw⟩
  rw [hw]
  clear hw w4
  simp only []
  refine hK.out _ _ (fun _ _ => HS.out) ?_
  clear hK K
  refine' take_P (i := 13) (d := 22) (v := _) rfl rfl (by kernel_rfl) (by kernel_rfl) (by kernel_rfl) (by kernel_rfl) (by kernel_rfl) (fun _ _ _ h => h) (Or.inl ⟨by rfl, ?h13⟩) (fun _ => HS.out) ?_
  case h13 => intro w hSw; go_simp; with_reducible rfl
  simp only [List.setIfInBounds_toArray, List.set_cons_zero, List.set_cons_succ]
  refine' take_P (i := 14) (d := 23) (v := _) rfl rfl (by kernel_rfl) (by kernel_rfl) (by kernel_rfl) (by kernel_rfl) (by kernel_rfl) (fun _ _ _ h => h) (Or.inl ⟨by rfl, ?h14⟩) (fun _ => HS.out) ?_
  case h14 => intro w hSw; go_simp; with_reducible rfl
  simp only [List.setIfInBounds_toArray, List.set_cons_zero, List.set_cons_succ]
  refine' take_P (i := 15) (d := 24) (v := _) rfl rfl (by kernel_rfl) (by kernel_rfl) (by kernel_rfl) (by kernel_rfl) (by kernel_rfl) (fun _ _ _ h => h) (Or.inl ⟨by rfl, ?h15⟩) (fun _ => HS.out) ?_
  case h15 => intro w hSw; go_simp; with_reducible rfl
  simp only [List.setIfInBounds_toArray, List.set_cons_zero, List.set_cons_succ]
  refine wpAnyU_ready (rs := [16]) (by kernel_rfl) (by simp) ?_
  refine AllReadyU.cons (o := _) rfl (fun K hK => ?_) AllReadyU.nil
  have c3 := HS.out.1
  have f3 := HN3.out.free 3
  go_simp
  clear c3 f3
  refine hK.out _ _ (fun h => absurd (by decide) h) ?_
  clear hK K
  have HN4 : Hid (Cb (w3.setCell ⟨q, 3, none⟩ (.int .i64 (Kq.more n.kids))) q (k10 { n with names := l, kids := Kq.more n.kids } (.slice a1 N c1)) 175) := HN3.out.set 3 _
  have HO4 : Hid ((w3.setCell ⟨q, 3, none⟩ (.int .i64 (Kq.more n.kids))).ownsRow w.heap.size 9 1 (.slice a1 N c1) N (sc l) ∧ w.grownBy (w3.setCell ⟨q, 3, none⟩ (.int .i64 (Kq.more n.kids))) (some q)) := ⟨row_stays HO3.out.1 (fun k hk => RowKit.Below.heap_setCell _ _ _ _ (fun e => HN3.out.apart HO3.out.1 (by decide) (by rw [hk]; exact congrArg some e))), grown_set HO3.out.2 _⟩
  generalize w3.setCell ⟨q, 3, none⟩ (.int .i64 (Kq.more n.kids)) = w4 at *
  refine' take_P (i := 17) (d := 25) (v := _) rfl rfl (by kernel_rfl) (by kernel_rfl) (by kernel_rfl) (by kernel_rfl) (by kernel_rfl) (fun _ _ _ h => h) (Or.inl ⟨by rfl, ?h17⟩) (fun h => absurd (h 16 (by simp)) (by decide)) ?_
  case h17 => intro w hSw; go_simp; with_reducible rfl
  simp only [List.setIfInBounds_toArray, List.set_cons_zero, List.set_cons_succ]
  refine' take_P (i := 18) (d := 26) (v := _) rfl rfl (by kernel_rfl) (by kernel_rfl) (by kernel_rfl) (by kernel_rfl) (by kernel_rfl) (fun _ _ _ h => h) (Or.inl ⟨by rfl, ?h18⟩) (fun h => absurd (h 16 (by simp)) (by decide)) ?_
  case h18 => intro w hSw; go_simp; with_reducible rfl
  simp only [List.setIfInBounds_toArray, List.set_cons_zero, List.set_cons_succ]
  refine' take_P (i := 19) (d := 27) (v := _) rfl rfl (by kernel_rfl) (by kernel_rfl) (by kernel_rfl) (by kernel_rfl) (by kernel_rfl) (fun _ _ _ h => h) (Or.inl ⟨by rfl, ?h19⟩) (fun h => absurd (h 16 (by simp)) (by decide)) ?_
  case h19 => intro w hSw; go_simp; with_reducible rfl
  simp only [List.setIfInBounds_toArray, List.set_cons_zero, List.set_cons_succ]
  refine wpAnyU_ready (rs := [20]) (by kernel_rfl) (by simp) ?_
  refine AllReadyU.cons (o := _) rfl (fun K hK => ?_) AllReadyU.nil
  have c6 : w4.cell? ⟨q, 6, none⟩ = some (.int .i64 n.cnt) := HN4.out.cell 6
  have f6 := HN4.out.free 6
  go_simp
  clear c6 f6
  refine hK.out _ _ (fun h => absurd (by decide) h) ?_
  clear hK K
  refine wpAnyU_done (by kernel_rfl) ?_ _
  go_wp2
  go_end0
  refine ⟨.slice a1 N c1, rfl, ?_, ?_, grown_set HO4.out.2 _⟩
  · have h := HN4.out.set 6 (.int .i64 (N : Int))
    rw [HNL.out] at h ⊢
    exact h
  · rw [← HNL.out]
    exact row_stays HO4.out.1 (fun k hk => RowKit.Below.heap_setCell _ _ _ _ (fun e => HN4.out.apart HO4.out.1 (by decide) (by rw [hk]; exact congrArg some e)))
end Go.Proofs.YtboejbjobjhajaaGreatDoor
