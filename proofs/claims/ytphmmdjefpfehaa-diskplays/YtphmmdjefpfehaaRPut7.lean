/- A file of the reference's disk is changed. -/
import Derived.Test.YtphmmdjefpfehaaRMove7
namespace Go.Proofs.Ytphmmdjefpfehaa.Dq

theorem upd_set {s : ByteArray} {g : Fl → Fl} : ∀ {fs : List Fl} {i : Nat} {f : Fl}, Rises fs → fs[i]? = some f → f.name = s → upd s g fs = fs.set i (g f)
  | [], _, _, _, h, _ => by simp at h
  | a :: fs, 0, f, hr, h, hn => by
    simp only [List.getElem?_cons_zero, Option.some.injEq] at h
    subst h
    have e : upd s g (a :: fs) = g a :: upd s g fs := by simp [upd, hn]
    rw [e, upd_none (fun x hx => by rw [← hn]; exact hr.notin x hx)]
    rfl
  | a :: fs, i + 1, f, hr, h, hn => by
    simp only [List.getElem?_cons_succ] at h
    have ha : a.name ≠ s := fun e => hr.notin f (List.mem_of_getElem? h) (by rw [hn, e])
    have e : upd s g (a :: fs) = a :: upd s g fs := by simp [upd, ha]
    rw [e, upd_set hr.tail h hn]
    rfl
theorem del_none {s : ByteArray} {fs : List Fl} (h : ∀ f ∈ fs, f.name ≠ s) : del s fs = fs := by
  unfold del
  rw [List.filter_eq_self]
  intro f hf
  simpa using h f hf
theorem del_at {s : ByteArray} : ∀ {fs : List Fl} {i : Nat} {f : Fl}, Rises fs → fs[i]? = some f → f.name = s → del s fs = fs.take i ++ fs.drop (i + 1)
  | [], _, _, _, h, _ => by simp at h
  | a :: fs, 0, f, hr, h, hn => by
    simp only [List.getElem?_cons_zero, Option.some.injEq] at h
    subst h
    have e : del s (a :: fs) = del s fs := by simp [del, hn]
    rw [e, del_none (fun x hx => by rw [← hn]; exact hr.notin x hx)]
    rfl
  | a :: fs, i + 1, f, hr, h, hn => by
    simp only [List.getElem?_cons_succ] at h
    have ha : a.name ≠ s := fun e => hr.notin f (List.mem_of_getElem? h) (by rw [hn, e])
    have e : del s (a :: fs) = a :: del s fs := by simp [del, ha]
    rw [e, del_at hr.tail h hn]
    rfl
end Go.Proofs.Ytphmmdjefpfehaa.Dq
namespace Go.Proofs.Ytphmmdjefpfehaa
open Go.RowKit

theorem fcs_set {ps : List (Dq.Fl × Value)} {i j : Nat} {p p' : Dq.Fl × Value} {u : Value} (hp : ps[i]? = some p) (hj : j < 3) (hfc : fc p' = (fc p).set j u) : fcs (ps.set i p') = (fcs ps).set (i * 3 + j) u := by
  have hi := (List.getElem?_eq_some_iff.1 hp).1
  apply List.ext_getElem?
  intro k
  rw [List.getElem?_set, fcs_get, fcs_get, List.getElem?_set]
  by_cases hk : i * 3 + j = k
  · have e1 : k / 3 = i := by omega
    have e2 : k % 3 = j := by omega
    rw [if_pos hk, if_pos e1.symm, if_pos hi, e2]
    show (fc p')[j]? = _
    rw [hfc, List.getElem?_set, if_pos rfl, if_pos (by rw [fc_len]; exact hj), if_pos (by rw [fcs_len]; omega)]
  · rw [if_neg hk]
    by_cases e1 : i = k / 3
    · rw [if_pos e1, if_pos hi, ← e1, hp]
      show (fc p')[k % 3]? = (fc p)[k % 3]?
      rw [hfc, List.getElem?_set, if_neg (by omega)]
    · rw [if_neg e1]

/-- A cell of a file is written. -/
theorem RefC.put {w w' : World} {q g n cap i j : Nat} {st : Dq.St} {G : Nat → Prop} {ps : List (Dq.Fl × Value)} {p p' : Dq.Fl × Value} {u : Value} (h : RefC w q st G (.slice (some ⟨g, 0, none⟩) n cap) ps) (hn : n = ps.length) (hp : ps[i]? = some p) (hb : Below w.heap.size w w') (hj : j < 3) (hfc : fc p' = (fc p).set j u)
    (hown : w'.ownsRow (q + 1) 5 1 p'.2 p'.1.b.length (bc p'.1.b)) (hbl : ∀ k, p'.2.ownBlock = some k → G k ∨ w.heap.size ≤ k) :
    RefC (w'.setCell ⟨g, i * 3 + j, none⟩ u) q { st with fs := (ps.set i p').map (·.1) } (Gx w w' G) (.slice (some ⟨g, 0, none⟩) n cap) (ps.set i p') ∧ Moved w (w'.setCell ⟨g, i * 3 + j, none⟩ u) G (Gx w w' G) := by
  have hR := h.below hb
  have hs := hb.size
  have hfo := hR.fo.own
  rw [← hn] at hfo
  have hst := hfo.stored (i * 3 + j) u
  have hgq : q < g := by have := (hfo.lt g rfl).1; omega
  have hset := hst.2
  have hsz : (w'.setCell ⟨g, i * 3 + j, none⟩ u).heap.size = w'.heap.size := by simp [World.setCell]
  have hqb : (w'.setCell ⟨g, i * 3 + j, none⟩ u).heap[q]? = w'.heap[q]? := hset.block q hR.lt (by simp; omega)
  refine ⟨⟨(World.cell?_of_block hqb).trans hR.c0, (World.cell?_of_block hqb).trans hR.c1, (World.cell?_of_block hqb).trans hR.c2, (World.cell?_of_block hqb).trans hR.c3, fun k => (World.frozen?_of_block hqb).trans (hR.free k), ⟨?_, fun r hr => ?_⟩, rfl, Or.inl h.gq, fun k hk => Or.inl (h.gl k hk), fun r hr k hk => ?_, fun k hk => ?_⟩, ?_⟩
  · rw [List.length_set, fcs_set hp hj hfc, ← hn]
    exact hst.1
  · have base : ∀ {r : Dq.Fl × Value}, w'.ownsRow (q + 1) 5 1 r.2 r.1.b.length (bc r.1.b) → (w'.setCell ⟨g, i * 3 + j, none⟩ u).ownsRow (q + 1) 5 1 r.2 r.1.b.length (bc r.1.b) := fun ho => ho.kept hset (own_apart7 hfo ho (by decide))
    rcases List.mem_or_eq_of_mem_set hr with h1 | h1
    · exact base (hR.fo.bytes r h1)
    · rw [h1]; exact base hown
  · rcases List.mem_or_eq_of_mem_set hr with h1 | h1
    · exact Or.inl (h.gb r h1 k hk)
    · rw [h1] at hk
      rcases hbl k hk with h2 | h2
      · exact Or.inl h2
      · exact Or.inr ⟨h2, (hown.lt k hk).2⟩
  · rw [hsz]
    rcases hk with hk | hk
    · exact Nat.lt_of_lt_of_le (h.glt k hk) hs
    · exact hk.2
  · refine ⟨hset.os.trans hb.os, hset.tape.trans hb.tape, hset.output.trans hb.output, by rw [hsz]; exact hs, fun k hk hG => ?_, fun k hk => ?_⟩
    · have e1 : (w'.setCell ⟨g, i * 3 + j, none⟩ u).heap[k]? = w'.heap[k]? := hset.block k (by omega) (by simp; intro e; subst e; exact hG (h.gl k rfl))
      rw [e1]
      exact hb.block k hk
    · rcases hk with hk | hk
      · exact Or.inl hk
      · exact Or.inr hk.1

theorem RefC.more {w : World} {q : Nat} {st : Dq.St} {G G' : Nat → Prop} {v : Value} {ps : List (Dq.Fl × Value)} (h : RefC w q st G v ps) (hs : ∀ k, G k → G' k) (hl : ∀ k, G' k → k < w.heap.size) : RefC w q st G' v ps :=
  ⟨h.c0, h.c1, h.c2, h.c3, h.free, h.fo, h.fs, hs q h.gq, fun k hk => hs k (h.gl k hk), fun p hp k hk => hs k (h.gb p hp k hk), hl⟩
theorem RefC.as {w : World} {q : Nat} {st st' : Dq.St} {G : Nat → Prop} {v : Value} {ps : List (Dq.Fl × Value)} (h : RefC w q st G v ps) (e : st = st') : RefC w q st' G v ps := e ▸ h

/-- What is changed at once in a disk's own cells. -/
theorem RefC.set23 {w : World} {q : Nat} {st : Dq.St} {G : Nat → Prop} {v : Value} {ps : List (Dq.Fl × Value)} (h : RefC w q st G v ps) (off : Bool) : RefC (w.setCell ⟨q, 2, none⟩ (.bool off)) q { st with off := off } G v ps ∧ Moved w (w.setCell ⟨q, 2, none⟩ (.bool off)) G G := by
  have hset := grownBy_setCell w ⟨q, 2, none⟩ (.bool off)
  have hsz : (w.setCell ⟨q, 2, none⟩ (.bool off)).heap.size = w.heap.size := by simp [World.setCell]
  refine ⟨⟨?_, ?_, World.cell?_setCell_same _ _ _ h.c2, ?_, fun i => by simpa using h.free i, h.fo.kept hset (Or.inl (by show q < q + 1; omega)), h.fs, h.gq, h.gl, h.gb, fun k hk => by rw [hsz]; exact h.glt k hk⟩, ⟨hset.os, hset.tape, hset.output, hset.size, fun k hk hG => hset.block k hk (by simp; intro e; subst e; exact hG h.gq), fun k hk => Or.inl hk⟩⟩
  · rw [World.cell?_setCell_other _ _ _ _ (by simp)]; exact h.c0
  · rw [World.cell?_setCell_other _ _ _ _ (by simp)]; exact h.c1
  · rw [World.cell?_setCell_other _ _ _ _ (by simp)]; exact h.c3
theorem RefC.set3 {w : World} {q : Nat} {st : Dq.St} {G : Nat → Prop} {v : Value} {ps : List (Dq.Fl × Value)} (h : RefC w q st G v ps) (l : Nat) : RefC (w.setCell ⟨q, 3, none⟩ (.int .i64 (l : Int))) q { st with lives := l } G v ps ∧ Moved w (w.setCell ⟨q, 3, none⟩ (.int .i64 (l : Int))) G G := by
  have hset := grownBy_setCell w ⟨q, 3, none⟩ (.int .i64 (l : Int))
  have hsz : (w.setCell ⟨q, 3, none⟩ (.int .i64 (l : Int))).heap.size = w.heap.size := by simp [World.setCell]
  refine ⟨⟨?_, ?_, ?_, World.cell?_setCell_same _ _ _ h.c3, fun i => by simpa using h.free i, h.fo.kept hset (Or.inl (by show q < q + 1; omega)), h.fs, h.gq, h.gl, h.gb, fun k hk => by rw [hsz]; exact h.glt k hk⟩, ⟨hset.os, hset.tape, hset.output, hset.size, fun k hk hG => hset.block k hk (by simp; intro e; subst e; exact hG h.gq), fun k hk => Or.inl hk⟩⟩
  · rw [World.cell?_setCell_other _ _ _ _ (by simp)]; exact h.c0
  · rw [World.cell?_setCell_other _ _ _ _ (by simp)]; exact h.c1
  · rw [World.cell?_setCell_other _ _ _ _ (by simp)]; exact h.c2

/-- What a call of the reference comes to. -/
def RefPost (w : World) (q : Nat) (st' : Dq.St) (G : Nat → Prop) (w' : World) : Prop := ∃ G' v' ps', RefC w' q st' G' v' ps' ∧ Moved w w' G G'

set_option maxRecDepth 20000 in
set_option maxHeartbeats 1000000 in
theorem refOn_any (q : Nat) (st : Dq.St) (G : Nat → Prop) (v : Value) (ps : List (Dq.Fl × Value)) (w : World) (hR : RefC w q st G v ps) (hl : st.lives ≤ 100000) :
    Calls Try.prog 27 #[dptr q] w fun e w' => e = .returned (.tuple #[]) ∧ RefPost w q (Dq.on st) G w' := by
  have HR : Hid (RefC w q st G v ps) := hR
  obtain ⟨h1, m1⟩ := hR.set23 false
  obtain ⟨h2, m2⟩ := h1.set3 (st.lives + 1)
  have HF : Hid (RefPost w q (Dq.on st) G ((w.setCell ⟨q, 2, none⟩ (.bool false)).setCell ⟨q, 3, none⟩ (.int .i64 ((st.lives + 1 : Nat) : Int)))) := ⟨_, _, _, h2, m1.trans m2⟩
  obtain ⟨l, hl2⟩ : ∃ l, l = st.lives := ⟨_, rfl⟩
  have c2 := hR.c2
  have c3 := hR.c3
  have f2 := hR.free 2
  have f3 := hR.free 3
  rw [← hl2] at c3 hl HF
  have hwr : IntKind.wrap .i64 ((l : Int) + 1) = ((l + 1 : Nat) : Int) := by rw [IntKind.wrap_i64]; omega
  clear h1 m1 h2 m2 hl2 hR
  go_enter Try.func27, Try.ntmps27
  go_wp2
  go_end0
  exact ⟨rfl, HF.out⟩
end Go.Proofs.Ytphmmdjefpfehaa
