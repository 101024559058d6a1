/- The tree as it landed: a map of nodes, each in a block of its own, its names in a row of their own. -/
import Derived.Test.YtfcbdjjbchcpjaaDoorSpecs11
import Derived.Test.YtfcbdjjbchcpjaaDoorPln
import Derived.Maps.RangeWalk
import Derived.Maps.AppendAt
import Derived.Sort.KeysCollected
namespace Go.Proofs.YtfcbdjjbchcpjaaDoor.Tq
open Kq
theorem en_uniq {l : List En} (hr : Rises (keys l)) {e f : En} (he : e ∈ l) (hf : f ∈ l) (h : e.1 = f.1) : e = f := by
  have h1 := find_of hr (p := e.1) (n := e.2) he
  have h2 := find_of hr (p := f.1) (n := f.2) hf
  rw [h, h2] at h1
  exact Prod.ext h (Option.some.inj h1).symm
theorem len_del_eq {p : ByteArray} {n : Kn} : ∀ {l : List En}, Rises (keys l) → find l p = some n → (del l p).length + 1 = l.length
  | [], _, h => by cases h
  | e :: l, hr, h => by
    unfold keys at hr
    rw [List.map_cons] at hr
    obtain ⟨h1, h2⟩ := List.pairwise_cons.1 hr
    rw [find_cons] at h
    by_cases he : e.1 = p
    · have e1 : del (e :: l) p = del l p := by simp [del, he]
      have e2 : del l p = l := by
        unfold del
        rw [List.filter_eq_self]
        intro x hx
        have h3 := lt_ne (h1 x.1 (List.mem_map.2 ⟨x, hx, rfl⟩))
        rw [he] at h3
        simpa using fun e => h3 e.symm
      rw [e1, e2, List.length_cons]
    · rw [if_neg he] at h
      have e1 : del (e :: l) p = e :: del l p := by simp [del, he]
      have ih := len_del_eq h2 h
      rw [e1, List.length_cons, List.length_cons]
      omega
theorem set_ins {l : List En} {p q : ByteArray} {n m : Kn} (h : p ≠ q) : set (ins l p n) q m = ins (set l q m) p n := by
  have hf : ((fun e : En => lt e.1 p) ∘ fun e : En => if e.1 = q then (e.1, m) else e) = fun e : En => lt e.1 p := by
    funext e
    simp only [Function.comp]
    split <;> rfl
  unfold ins low high set
  rw [List.takeWhile_map, List.dropWhile_map, hf, List.map_append, List.map_cons, if_neg h]
theorem set_mem {l : List En} {p : ByteArray} {m : Kn} (h : p ∈ keys l) : (p, m) ∈ set l p m := by
  obtain ⟨e, he, rfl⟩ := List.mem_map.1 h
  exact List.mem_map.2 ⟨e, he, by simp⟩
theorem mem_set2 {l : List En} {e : En} {p : ByteArray} {n : Kn} (h : e ∈ set l p n) : (e ∈ l ∧ e.1 ≠ p) ∨ (e = (p, n) ∧ p ∈ keys l) := by
  unfold set at h
  obtain ⟨x, hx, he⟩ := List.mem_map.1 h
  split at he
  · rename_i hp
    rw [hp] at he
    exact Or.inr ⟨he.symm, List.mem_map.2 ⟨x, hx, hp⟩⟩
  · rename_i hp
    exact Or.inl (he ▸ ⟨hx, hp⟩)
end Go.Proofs.YtfcbdjjbchcpjaaDoor.Tq
namespace Go.Proofs.YtfcbdjjbchcpjaaDoor
open Go.RowKit

/-- A node's pointer, as an element of the map. -/
def fElem : Value → Option (DataW Nat × List MemPlace)
  | .pointer none => some (.nil, [])
  | .pointer (some ⟨p, 0, none⟩) => some (.held p, [])
  | _ => none
theorem fElem_ptr (p : Nat) : fElem (dptr p) = some (.held p, []) := rfl
theorem fElem_inv {v : Value} {y : DataW Nat × List MemPlace} (h : fElem v = some y) : ∃ o : Option Nat, v = .pointer (o.map fun p => ⟨p, 0, none⟩) := by
  unfold fElem at h
  split at h
  · exact ⟨none, rfl⟩
  · exact ⟨some _, rfl⟩
  · cases h
theorem fElem_held {v : Value} {p : Nat} {ps : List MemPlace} (h : fElem v = some (.held p, ps)) : v = dptr p := by
  unfold fElem at h
  split at h
  · cases h
  · cases h; rfl
  · cases h
theorem fElem_nil {v : Value} {ps : List MemPlace} (h : fElem v = some (.nil, ps)) : v = .pointer none := by
  unfold fElem at h
  split at h
  · rfl
  · cases h
  · cases h
def fkey (s : ByteArray) : Lit := .string s.data.toList
theorem fkey_inj {s t : ByteArray} (h : fkey s = fkey t) : s = t := by
  unfold fkey at h
  simp only [Lit.string.injEq] at h
  exact bytes_eq (by rw [ByteArray.toList_eq, ByteArray.toList_eq, h]; simp)
theorem keyed11 : Maps.Keyed Tryd.prog 9 := Maps.string_keyed Tryd.underlying9
theorem key_of {s : ByteArray} (hs : s.size ≤ maxLen) : keyOf Tryd.prog 9 (.string s) = some (fkey s) := Go.WideMaps.keyOf_string_mk Tryd.underlying9 hs
theorem fkey_lit {s : ByteArray} (hs : s.size ≤ maxLen) : WideAt.IsKeyLit (fkey s) := keyed11.key (key_of hs)
theorem good_len {p : ByteArray} (h : Pl.goodB p.data.toList = true) : p.size ≤ 200 := by
  have h1 := (Pl.good_parts h).2.2
  rw [Array.length_toList] at h1
  have h3 : p.size = p.data.size := rfl
  omega
theorem good_max {p : ByteArray} (h : Pl.goodB p.data.toList = true) : p.size ≤ maxLen := by have := good_len h; unfold maxLen; omega
theorem name_len {p : ByteArray} (h : Pl.nameB p.data.toList = true) : p.size ≤ 40 := by
  have h3 : p.size = p.data.toList.length := by rw [Array.length_toList]; rfl
  rw [h3]
  apply Classical.byContradiction
  intro hn
  rw [Pl.nameB_long (by omega)] at h
  cases h

/-- A node in its block, its names in a row that nobody else has. -/
structure Own11 (w : World) (q : Nat) (n : Kq.Kn) (v : Value) : Prop where
  blk : Cb w q (k10 n v) 57
  row : w.ownsRow 0 9 1 v n.names.length (sc n.names)
  rises : Kq.Rises n.names
section
variable {w w' : World} {q : Nat} {n : Kq.Kn} {v : Value}
theorem Own11.keep (h : Own11 w q n v) (hk : ∀ k, Fn q v k → w'.heap[k]? = w.heap[k]?) : Own11 w' q n v := ⟨h.blk.keep (hk q (Or.inl rfl)), row_stays h.row (fun k e => hk k (Or.inr e)), h.rises⟩
theorem Own11.flt (h : Own11 w q n v) {k : Nat} (hk : Fn q v k) : k < w.heap.size := by
  rcases hk with rfl | hk
  · exact h.blk.lt
  · exact (h.row.lt k hk).2
theorem Own11.vne (h : Own11 w q n v) : v.ownBlock ≠ some q := h.blk.apart h.row (by decide)
end

/-- The tree at q. -/
structure TkU (w : World) (q : Nat) (t : Tq.Tr) (G : Nat → Prop) (m : Nat) (D : DataW Nat) (P : ByteArray → Nat) (V : ByteArray → Value) : Prop where
  blk : Cb w q [.map (some m), .int .i64 t.room] 52
  own : w.ownsMap Tryd.prog 9 fElem m t.l.length D
  sz : Maps.size D = t.l.length
  has : ∀ kl, Maps.has D kl = true ↔ ∃ e ∈ t.l, kl = fkey e.1
  at_ : ∀ e ∈ t.l, ∀ z, D.atKey (fkey e.1) z = .held (P e.1)
  node : ∀ e ∈ t.l, Own11 w (P e.1) e.2 (V e.1)
  apart : ∀ e ∈ t.l, ∀ f ∈ t.l, e.1 ≠ f.1 → P e.1 ≠ P f.1 ∧ ∀ k, (V e.1).ownBlock = some k → (V f.1).ownBlock ≠ some k
  gq : G q
  gm : G m
  gf : ∀ e ∈ t.l, G (P e.1) ∧ ∀ k, (V e.1).ownBlock = some k → G k
  glt : ∀ k, G k → k < w.heap.size
def LTk : Rep11 := fun w q t G => ∃ m D P V, TkU w q t G m D P V

section
variable {w w' : World} {q m : Nat} {t : Tq.Tr} {G : Nat → Prop} {D : DataW Nat} {P : ByteArray → Nat} {V : ByteArray → Value}
theorem TkU.keep (h : TkU w q t G m D P V) (hk : ∀ k, G k → w'.heap[k]? = w.heap[k]?) : TkU w' q t G m D P V := by
  refine ⟨h.blk.keep (hk q h.gq), ?_, h.sz, h.has, h.at_, fun e he => (h.node e he).keep (fun k hk2 => ?_), h.apart, h.gq, h.gm, h.gf, fun k e => ?_⟩
  · obtain ⟨es, clock, hb, r⟩ := h.own
    exact ⟨es, clock, (hk m h.gm).trans hb, r⟩
  · rcases hk2 with rfl | hk2
    · exact hk _ (h.gf e he).1
    · exact hk _ ((h.gf e he).2 k hk2)
  · have h1 := h.glt k e
    have h2 := hk k e
    rw [Array.getElem?_eq_getElem h1] at h2
    exact (Array.getElem?_eq_some_iff.1 h2).1
theorem TkU.below (h : TkU w q t G m D P V) (hb : Below w.heap.size w w') : TkU w' q t G m D P V := h.keep fun k hk => hb.block k (h.glt k hk)
theorem TkU.ne_m (h : TkU w q t G m D P V) : m ≠ q := fun e => by
  obtain ⟨es, clock, hb, _⟩ := h.own
  have := h.blk
  unfold Cb at this
  rw [e, this] at hb
  cases hb
theorem TkU.p_m (h : TkU w q t G m D P V) {e : Tq.En} (he : e ∈ t.l) : P e.1 ≠ m := fun e2 => by
  obtain ⟨es, clock, hb, _⟩ := h.own
  have := (h.node e he).blk
  unfold Cb at this
  rw [e2, hb] at this
  cases this
theorem TkU.p_q (h : TkU w q t G m D P V) {e : Tq.En} (he : e ∈ t.l) : P e.1 ≠ q := fun e2 => by
  have h1 := (h.node e he).blk
  have h2 := h.blk
  unfold Cb at h1 h2
  rw [e2, h2] at h1
  simp only [Option.some.injEq, Obj.cells.injEq] at h1
  exact absurd h1.2.1 (by decide)
theorem TkU.v_m (h : TkU w q t G m D P V) {e : Tq.En} (he : e ∈ t.l) : (V e.1).ownBlock ≠ some m := fun e2 => by
  obtain ⟨es, clock, hb, _⟩ := h.own
  obtain ⟨cur, hc⟩ := row_in (h.node e he).row e2
  rw [hb] at hc
  cases hc
theorem TkU.v_q (h : TkU w q t G m D P V) {e : Tq.En} (he : e ∈ t.l) : (V e.1).ownBlock ≠ some q := h.blk.apart (h.node e he).row (by decide)
theorem own_v_p {p p' : Nat} {v v' : Value} {n n' : Kq.Kn} (h : Own11 w p n v) (h' : Own11 w p' n' v') : v.ownBlock ≠ some p' := h'.blk.apart h.row (by decide)

/-- The blocks that there are behind a call. -/
def Gd (w w' : World) (G : Nat → Prop) : Nat → Prop := fun k => G k ∨ (w.heap.size ≤ k ∧ k < w'.heap.size)
theorem Moved.gd {F F' : Nat → Prop} (h : Moved w w' F F') (hs : ∀ k, F k → G k) : Moved w w' G (Gd w w' G) :=
  ⟨h.os, h.tape, h.output, h.size, fun k hk hG => h.block k hk (fun e => hG (hs k e)), fun _ hk => hk.imp id (fun x => x.1)⟩
theorem gd_lt (hs : w.heap.size ≤ w'.heap.size) (hl : ∀ k, G k → k < w.heap.size) : ∀ k, Gd w w' G k → k < w'.heap.size := fun k hk => by
  rcases hk with hk | hk
  · exact Nat.lt_of_lt_of_le (hl k hk) hs
  · exact hk.2

/-- One node has changed. -/
theorem TkU.change (h : TkU w q t G m D P V) {p : ByteArray} {n n' : Kq.Kn} {v' : Value} (hf : (p, n) ∈ t.l) (ho : Own11 w' (P p) n' v') (hm : Moved w w' (Fn (P p) (V p)) (Fn (P p) v')) :
    TkU w' q { t with l := Tq.set t.l p n' } (Gd w w' G) m D P (fun x => if x = p then v' else V x) ∧ Moved w w' G (Gd w w' G) := by
  have hk : p ∈ Tq.keys t.l := List.mem_map.2 ⟨_, hf, rfl⟩
  have hmm : w'.heap[m]? = w.heap[m]? := hm.block m (h.glt m h.gm) (by
    rintro (e | e)
    · exact h.p_m hf e.symm
    · exact h.v_m hf e)
  have hqq : w'.heap[q]? = w.heap[q]? := hm.block q (h.glt q h.gq) (by
    rintro (e | e)
    · exact h.p_q hf e.symm
    · exact h.v_q hf e)
  have hold : ∀ x ∈ t.l, x.1 ≠ p → Own11 w' (P x.1) x.2 (V x.1) := fun x hx hne => (h.node x hx).keep (fun k hk2 => hm.block k ((h.node x hx).flt hk2) (by
    rcases hk2 with rfl | hk2
    · rintro (e | e)
      · exact (h.apart x hx _ hf hne).1 e
      · exact own_v_p (h.node _ hf) (h.node x hx) e
    · rintro (e | e)
      · exact own_v_p (h.node x hx) (h.node _ hf) (by rw [hk2, e])
      · exact (h.apart x hx _ hf hne).2 k hk2 e))
  have hsub : ∀ k, Fn (P p) (V p) k → G k := by
    rintro k (e | e)
    · exact e ▸ (h.gf _ hf).1
    · exact (h.gf _ hf).2 k e
  have hnew : ∀ k, v'.ownBlock = some k → ∀ y ∈ t.l, y.1 ≠ p → (V y.1).ownBlock ≠ some k := fun k hk y hy hne e => by
    rcases hm.sub k (Or.inr hk) with (h1 | h1) | h1
    · exact own_v_p (h.node y hy) (h.node _ hf) (by rw [e, h1])
    · exact (h.apart y hy _ hf hne).2 k e h1
    · have := h.glt k ((h.gf y hy).2 k e)
      omega
  refine ⟨⟨h.blk.keep hqq, ?_, ?_, fun kl => ?_, fun x hx z => ?_, fun x hx => ?_, fun x hx y hy hne => ?_, Or.inl h.gq, Or.inl h.gm, fun x hx => ?_, gd_lt hm.size h.glt⟩, hm.gd hsub⟩
  · obtain ⟨es, clock, hb, r⟩ := h.own
    simp only [Tq.len_set]
    exact ⟨es, clock, hmm.trans hb, r⟩
  · simp only [Tq.len_set]
    exact h.sz
  · rw [h.has]
    have key : ∀ s : ByteArray, (∃ e ∈ t.l, fkey s = fkey e.1) ↔ s ∈ Tq.keys t.l := fun s => ⟨fun ⟨e, he, e2⟩ => List.mem_map.2 ⟨e, he, (fkey_inj e2).symm⟩, fun hs => by
      obtain ⟨e, he, rfl⟩ := List.mem_map.1 hs
      exact ⟨e, he, rfl⟩⟩
    constructor
    · rintro ⟨e, he, e2⟩
      have h1 : e.1 ∈ Tq.keys (Tq.set t.l p n') := by rw [Tq.keys_set]; exact List.mem_map.2 ⟨e, he, rfl⟩
      obtain ⟨f, hf2, e3⟩ := List.mem_map.1 h1
      exact ⟨f, hf2, by rw [e2, e3]⟩
    · rintro ⟨e, he, e2⟩
      have h1 : e.1 ∈ Tq.keys (Tq.set t.l p n') := List.mem_map.2 ⟨e, he, rfl⟩
      rw [Tq.keys_set] at h1
      obtain ⟨f, hf2, e3⟩ := List.mem_map.1 h1
      exact ⟨f, hf2, by rw [e2, e3]⟩
  · rcases Tq.mem_set2 hx with ⟨hx, _⟩ | ⟨rfl, _⟩
    · exact h.at_ x hx z
    · exact h.at_ _ hf z
  · rcases Tq.mem_set2 hx with ⟨hx, hxp⟩ | ⟨rfl, _⟩
    · simp only [if_neg hxp]
      exact hold x hx hxp
    · simpa using ho
  · rcases Tq.mem_set2 hx with ⟨hx, hxp⟩ | ⟨rfl, _⟩
    · rcases Tq.mem_set2 hy with ⟨hy, hyp⟩ | ⟨rfl, _⟩
      · simp only [if_neg hxp, if_neg hyp]
        exact h.apart x hx y hy hne
      · simp only [if_neg hxp, if_pos]
        exact ⟨(h.apart x hx _ hf hxp).1, fun k hk hk2 => hnew k hk2 x hx hxp hk⟩
    · rcases Tq.mem_set2 hy with ⟨hy, hyp⟩ | ⟨rfl, _⟩
      · simp only [if_neg hyp, if_pos]
        exact ⟨Ne.symm (h.apart y hy _ hf hyp).1, fun k hk => hnew k hk y hy hyp⟩
      · exact absurd rfl hne
  · rcases Tq.mem_set2 hx with ⟨hx, hxp⟩ | ⟨rfl, _⟩
    · simp only [if_neg hxp]
      exact ⟨Or.inl (h.gf x hx).1, fun k hk => Or.inl ((h.gf x hx).2 k hk)⟩
    · simp only [if_pos]
      refine ⟨Or.inl (h.gf _ hf).1, fun k hk => ?_⟩
      rcases hm.sub k (Or.inr hk) with h1 | h1
      · exact Or.inl (hsub k h1)
      · exact Or.inr ⟨h1, (ho.row.lt k hk).2⟩

theorem tight11 {n : Nat} (h : w.ownsMap Tryd.prog 9 fElem m n D) : w.ownsMap Tryd.prog 9 fElem m (Maps.size D) D := by
  obtain ⟨es, clock, hb, F, hs, rfl⟩ := h
  exact ⟨es, clock, hb, F, by simp [Maps.size, length_sorted], rfl⟩

/-- An entry goes. -/
theorem TkU.gone (h : TkU w q t G m D P V) (hr : Kq.Rises (Tq.keys t.l)) {p : ByteArray} {n : Kq.Kn} {N : Nat} (hf : (p, n) ∈ t.l) (ho : w'.ownsMap Tryd.prog 9 fElem m N (D.del (fkey p))) (ht : w.mapTurned w' m) :
    TkU w' q { t with l := Tq.del t.l p } G m (D.del (fkey p)) P V ∧ Moved w w' G G := by
  have hg := ht.grown
  have hkp : ∀ k, G k → k ≠ m → w'.heap[k]? = w.heap[k]? := fun k hk hne => hg.block k (h.glt k hk) (by simpa using hne)
  have hfd : ∀ x ∈ t.l, Own11 w' (P x.1) x.2 (V x.1) := fun x hx => (h.node x hx).keep (fun k hk => by
    rcases hk with rfl | hk
    · exact hkp _ (h.gf x hx).1 (h.p_m hx)
    · exact hkp k ((h.gf x hx).2 k hk) (fun e => h.v_m hx (e ▸ hk)))
  have hsz : Maps.size (D.del (fkey p)) = (Tq.del t.l p).length := by
    have h1 := Maps.size_del (k := fkey p) (h.own.tidy keyed11)
    have h2 : Maps.has D (fkey p) = true := (h.has _).2 ⟨_, hf, rfl⟩
    have h4 := Tq.len_del_eq hr (Tq.find_of hr hf)
    have h5 := h.sz
    rw [h2] at h1
    simp only [if_true] at h1
    omega
  refine ⟨⟨h.blk.keep (hkp q h.gq (Ne.symm h.ne_m)), (tight11 ho).mono (Nat.le_of_eq hsz), hsz, fun kl => ?_, fun x hx z => ?_, fun x hx => hfd x (Tq.mem_del.1 hx).1, fun x hx y hy => h.apart x (Tq.mem_del.1 hx).1 y (Tq.mem_del.1 hy).1, h.gq, h.gm, fun x hx => h.gf x (Tq.mem_del.1 hx).1, fun k hk => Nat.lt_of_lt_of_le (h.glt k hk) hg.size⟩, ⟨hg.os, hg.tape, hg.output, hg.size, fun k hk hG => hg.block k hk (by simp; exact fun e => hG (e ▸ h.gm)), fun k hk => Or.inl hk⟩⟩
  · by_cases e : kl = fkey p
    · subst e
      rw [Maps.has_del_same]
      refine ⟨fun hx => (by cases hx), ?_⟩
      rintro ⟨x, hx, e⟩
      exact absurd (fkey_inj e).symm (Tq.mem_del.1 hx).2
    · rw [Maps.has_del_other e, h.has]
      constructor
      · rintro ⟨x, hx, e2⟩
        exact ⟨x, Tq.mem_del.2 ⟨hx, fun e3 => e (by rw [e2, e3])⟩, e2⟩
      · rintro ⟨x, hx, e2⟩
        exact ⟨x, (Tq.mem_del.1 hx).1, e2⟩
  · obtain ⟨hx1, hx2⟩ := Tq.mem_del.1 hx
    rw [Maps.atKey_del_other (fun e => hx2 (fkey_inj e))]
    exact h.at_ x hx1 z

/-- An entry comes. -/
theorem TkU.come (h : TkU w q t G m D P V) {p : ByteArray} {n : Kq.Kn} {b N : Nat} {v : Value} (hlen : p.size ≤ maxLen) (hnone : Tq.find t.l p = none) (ho : w'.ownsMap Tryd.prog 9 fElem m N (D.put (fkey p) (.held b))) (ht : w.mapTurned w' m)
    (hfd : Own11 w b n v) (hap : ∀ f ∈ t.l, P f.1 ≠ b ∧ ∀ k, (V f.1).ownBlock = some k → v.ownBlock ≠ some k) (hG : G b ∧ ∀ k, v.ownBlock = some k → G k) :
    TkU w' q { t with l := Tq.ins t.l p n } G m (D.put (fkey p) (.held b)) (fun x => if x = p then b else P x) (fun x => if x = p then v else V x) ∧ Moved w w' G G := by
  have hg := ht.grown
  have hbm : b ≠ m := fun e => by
    obtain ⟨es, clock, hb, _⟩ := h.own
    have := hfd.blk
    unfold Cb at this
    rw [e, hb] at this
    cases this
  have hvm : v.ownBlock ≠ some m := fun e2 => by
    obtain ⟨es, clock, hb, _⟩ := h.own
    obtain ⟨cur, hc⟩ := row_in hfd.row e2
    rw [hb] at hc
    cases hc
  have hkp : ∀ k, G k → k ≠ m → w'.heap[k]? = w.heap[k]? := fun k hk hne => hg.block k (h.glt k hk) (by simpa using hne)
  have hne : ∀ x ∈ t.l, x.1 ≠ p := fun x hx e => Tq.find_none hnone (List.mem_map.2 ⟨x, hx, e⟩)
  have hcase : ∀ x ∈ Tq.ins t.l p n, x = (p, n) ∨ (x ∈ t.l ∧ x.1 ≠ p) := fun x hx => (Tq.mem_ins.1 hx).imp id (fun e => ⟨e, hne x e⟩)
  have hsz : Maps.size (D.put (fkey p) (.held b)) = (Tq.ins t.l p n).length := by
    have h1 := Maps.size_put (k := fkey p) (h.own.tidy keyed11) (.held b)
    have h2 : Maps.has D (fkey p) = false := by
      cases hh : Maps.has D (fkey p) with
      | false => rfl
      | true =>
        obtain ⟨x, hx, e⟩ := (h.has _).1 hh
        exact absurd (fkey_inj e).symm (hne x hx)
    rw [h2] at h1
    rw [Tq.len_ins, h1, h.sz]
    rfl
  refine ⟨⟨h.blk.keep (hkp q h.gq (Ne.symm h.ne_m)), (tight11 ho).mono (Nat.le_of_eq hsz), hsz, fun kl => ?_, fun x hx z => ?_, fun x hx => ?_, fun x hx y hy hxy => ?_, h.gq, h.gm, fun x hx => ?_, fun k hk => Nat.lt_of_lt_of_le (h.glt k hk) hg.size⟩, ⟨hg.os, hg.tape, hg.output, hg.size, fun k hk hG => hg.block k hk (by simp; exact fun e => hG (e ▸ h.gm)), fun k hk => Or.inl hk⟩⟩
  · by_cases e : kl = fkey p
    · subst e
      rw [Maps.has_put_same h.own.isMap (fkey_lit hlen)]
      exact ⟨fun _ => ⟨_, Tq.mem_ins.2 (Or.inl rfl), rfl⟩, fun _ => rfl⟩
    · rw [Maps.has_put_other e, h.has]
      constructor
      · rintro ⟨x, hx, e2⟩
        exact ⟨x, Tq.mem_ins.2 (Or.inr hx), e2⟩
      · rintro ⟨x, hx, e2⟩
        rcases hcase x hx with e3 | e3
        · exact absurd (by rw [e2, e3]) e
        · exact ⟨x, e3.1, e2⟩
  · rcases hcase x hx with e | e
    · rw [e, Maps.atKey_put_same h.own.isMap (fkey_lit hlen)]
      simp
    · rw [Maps.atKey_put_other (fun e2 => e.2 (fkey_inj e2)), if_neg e.2]
      exact h.at_ x e.1 z
  · rcases hcase x hx with e | e
    · simp only [e, if_pos]
      refine hfd.keep (fun k hk => ?_)
      rcases hk with rfl | hk
      · exact hkp _ hG.1 hbm
      · exact hkp k (hG.2 k hk) (fun e => hvm (e ▸ hk))
    · simp only [if_neg e.2]
      refine (h.node x e.1).keep (fun k hk => ?_)
      rcases hk with rfl | hk
      · exact hkp _ (h.gf x e.1).1 (h.p_m e.1)
      · exact hkp k ((h.gf x e.1).2 k hk) (fun e2 => h.v_m e.1 (e2 ▸ hk))
  · rcases hcase x hx with e | e
    · rcases hcase y hy with e' | e'
      · exact absurd (by rw [e, e']) hxy
      · simp only [e, if_neg e'.2, if_pos]
        exact ⟨Ne.symm (hap y e'.1).1, fun k hk hk2 => (hap y e'.1).2 k hk2 hk⟩
    · rcases hcase y hy with e' | e'
      · simp only [e', if_neg e.2, if_pos]
        exact hap x e.1
      · simp only [if_neg e.2, if_neg e'.2]
        exact h.apart x e.1 y e'.1 hxy
  · rcases hcase x hx with e | e
    · simp only [e, if_pos]
      exact hG
    · simp only [if_neg e.2]
      exact h.gf x e.1
/-- More blocks are the tree's. -/
theorem TkU.more {G' : Nat → Prop} (h : TkU w q t G m D P V) (hs : ∀ k, G k → G' k) (hl : ∀ k, G' k → k < w.heap.size) : TkU w q t G' m D P V :=
  ⟨h.blk, h.own, h.sz, h.has, h.at_, h.node, h.apart, hs q h.gq, hs m h.gm, fun f hf => ⟨hs _ (h.gf f hf).1, fun k e => hs k ((h.gf f hf).2 k e)⟩, hl⟩
/-- What a path's key tells. -/
theorem TkU.there (h : TkU w q t G m D P V) {p : ByteArray} {n : Kq.Kn} (hf : Tq.find t.l p = some n) : Maps.has D (fkey p) = true ∧ ∀ z, D.atKey (fkey p) z = .held (P p) := ⟨(h.has _).2 ⟨_, Tq.find_some hf, rfl⟩, h.at_ _ (Tq.find_some hf)⟩
theorem TkU.nowhere (h : TkU w q t G m D P V) {p : ByteArray} (hf : Tq.find t.l p = none) : Maps.has D (fkey p) = false := by
  cases hh : Maps.has D (fkey p) with
  | false => rfl
  | true =>
    obtain ⟨x, hx, e⟩ := (h.has _).1 hh
    exact absurd (List.mem_map.2 ⟨x, hx, (fkey_inj e).symm⟩) (Tq.find_none hf)
end
end Go.Proofs.YtfcbdjjbchcpjaaDoor
