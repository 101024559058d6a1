import Derived.Test.YtboejbjobjhajaaGreatDoorWPr18
import Derived.Test.YtboejbjobjhajaaGreatDoorWm2
namespace Go.Proofs.YtboejbjobjhajaaGreatDoor
open Go.RowKit
section
variable {LT : Rep11} {LS : Rep17} {w w' w0 : World} {q : Nat} {s : Pt.St} {F F' F0 : Nat → Prop}
theorem LPt18.lt (h : LPt18 LT LS w q s F) {k : Nat} (hk : F k) : k < w.heap.size := lpt_lt18 h hk
theorem LPt18.below (S : Base18 LT LS) (h : LPt18 LT LS w q s F) (hb : Below w.heap.size w w') : LPt18 LT LS w' q s F := lpt_keep18 S.t S.l h fun k hk => hb.block k (lpt_lt18 h hk)
theorem LPt18.open (h : LPt18 LT LS w q s F) : ∃ qt ql a b c, w.cell? ⟨q, 0, none⟩ = some (dptr qt) ∧ w.cell? ⟨q, 1, none⟩ = some (.int .i64 s.t.room) ∧ w.cell? ⟨q, 2, none⟩ = some (.int .i64 s.z) ∧ w.cell? ⟨q, 3, none⟩ = some (dptr ql) ∧ w.cell? ⟨q, 4, none⟩ = some (.map (some a)) ∧ w.cell? ⟨q, 5, none⟩ = some (.map (some b)) ∧ w.cell? ⟨q, 6, none⟩ = some (.map (some c)) ∧ w.frozen? ⟨q, 2, none⟩ = false ∧ F q := by
  obtain ⟨fw, fd, fs, qt, ql, a, b, c, Ft, Fl, G, V, h, _⟩ := h
  obtain ⟨col, hc⟩ := h.col
  exact ⟨qt, ql, a, b, c, h.c0, h.c1, h.c2, h.c3, h.c4, h.c5, h.c6, h.blk.free 2, hc.fq⟩
theorem LPt18.isNew (h : LPt18 LT LS w q s F) (id : Int) (hs : I64 id) : Calls Tryz.prog 44 #[dptr q, .int .i64 id] w fun e w' => e = .returned (.bool (Pt.isNew s id)) ∧ Below w.heap.size w w' := by
  obtain ⟨fw, fd, fs, qt, ql, a, b, c, Ft, Fl, G, V, h, h1, h2, h3⟩ := h
  exact isNew_any18 h h1 h2 id hs
theorem LPt18.refusal (S : Base18 LT LS) {m : Nat} (h : LPt18 LT LS w q s F) (hf : Pt.Fit m s) (hm : m ≤ 1001) (hS : Pa.Std w) (who : Int) (hw : I64 who) (se : Int) (hse : I64 se) (v : Value) (os : List O) (hv : Ol w v os) (hl : os.length ≤ 1000) (hg : ∀ o ∈ os, Oq.good o = 0) (r1 r2 : Int) (hr : Pt.refusal s who se os = (r1, r2)) :
    Calls Tryz.prog 45 #[dptr q, .int .i64 who, .int .i64 se, v] w fun e w' => e = .returned (.tuple #[.int .i64 r1, .int .i64 r2]) ∧ Below w.heap.size w w' := by
  obtain ⟨fw, fd, fs, qt, ql, a, b, c, Ft, Fl, G, V, h, h1, h2, h3⟩ := h
  have h4 := hf.wanted_le
  have h5 := hf.well.fine.len
  have h6 := hf.well.fine.room
  have h7 := refusal_any18 S h h3 hf.lk (by omega) (by omega) (by omega) hS who hw se hse v os hv hl hg
  rw [hr] at h7
  exact h7
theorem LPt18.ended (h : LPt18 LT LS w q s F) (se : Int) (hse : I64 se) : Calls Tryz.prog 58 #[dptr q, .int .i64 se] w fun e w' => e = .returned (.int .i64 (Pt.ended s se)) ∧ Below w.heap.size w w' := by
  obtain ⟨fw, fd, fs, qt, ql, a, b, c, Ft, Fl, G, V, h, h1, h2, h3⟩ := h
  exact ended_any18 h h3 se hse
theorem LPt18.take (S : Base18 LT LS) (h : LPt18 LT LS w q s F) : ∃ ql, w.cell? ⟨q, 3, none⟩ = some (dptr ql) ∧ ∀ (w1 : World) (who : Int) (v : Value) (ps : List ByteArray) (m : Nat), Below w.heap.size w w1 → Lk.Fine m s.lk → m ≤ 1000000 → (∀ k, F k → 6 ≤ k) → Pa.Std w1 → I64 who → Ss w1 v ps → ps.length ≤ 1000 → (∀ p ∈ ps, Lk.good p = true) → (∀ k, v.ownBlock = some k → ps ≠ [] → ¬ F k) →
    Calls Tryz.prog 49 #[dptr ql, .int .i64 who, v] w1 fun e w' => ∃ F', e = .returned (.tuple #[.string (Lk.take s.lk who ps).1, .bool (Lk.take s.lk who ps).2.1]) ∧ LPt18 LT LS w' q { s with lk := (Lk.take s.lk who ps).2.2 } F' ∧ Moved w1 w' F F' ∧ w'.heap[q]? = w1.heap[q]? := by
  obtain ⟨fw, fd, fs, qt, ql, a, b, c, Ft, Fl, G, V, h, h1, h2, h3⟩ := h
  refine ⟨ql, h.c3, fun w1 who v ps m hb hf hm h6 hS hw hv hl hg hoff => ?_⟩
  have hu := h.below S.t S.l hb
  obtain ⟨col, hc⟩ := hu.col
  refine (S.l.take ql s.lk Fl m who v ps w1 hu.lo hf hm (fun k hk => h6 k (hc.fl hk)) hS hw hv hl (fun p hp => ?_) (fun k hk hne e => hoff k hk hne (hc.fl e))).mono ?_
  · have h1 := (Pl.good_parts (show Pl.goodB p.data.toList = true from hg p hp)).2.2
    rw [Pa.sz_list] at h1
    unfold maxLen
    omega
  · rintro e w2 ⟨Fl', rfl, hlk, hmv⟩
    obtain ⟨F', g1, g2, g3⟩ := hu.lock S.t S.l hlk hmv
    refine ⟨F', rfl, ⟨fw, fd, fs, qt, ql, a, b, c, Ft, Fl', G, V, g1, h1.keep fun k hk hl => ?_, h2, h3⟩, g2, g3 q hc.fq (fun e => by
      have e1 := hc.l q e
      rw [hc.q] at e1
      cases e1)⟩
    rw [g3 k (hc.fg hk) (fun e => by
      have e1 := hc.g k hk
      rw [hc.l k e] at e1
      cases e1), hb.block k hl]
theorem IsW18.wide {ps : List Pt.Pr} {V : Int → Value} {G G' : Nat → Prop} {f : Lit → Option Value} (h : IsW18 w ps V G f) (hg : ∀ k, G k → G' k) : IsW18 w ps V G' f := ⟨h.at_, h.key, h.ops, fun p hp k hk hne => hg k (h.off p hp k hk hne)⟩
theorem LPt18.prepare (S : Base18 LT LS) {m : Nat} (h : LPt18 LT LS w q s F) (hps : ∀ x ∈ s.ps, Pt.FitP x) (hlen : s.ps.length ≤ m ∧ s.cl.length ≤ m) (hm : m ≤ 1000) (p : Pt.Pr) (hp : Pt.FitP p) (hn : ∀ x ∈ s.ps, x.id ≠ p.id) (av : Option Addr) (N cc : Nat) (hu : Om12 w F (.slice av N cc) (Pt.own p)) :
    Calls Tryz.prog 51 #[dptr q, .int .i64 p.id, .agg #[.int .i64 p.sess, .slice av N cc, .bool p.closes]] w fun e w' => e = .returned (.tuple #[]) ∧ ∃ F', LPt18 LT LS w' q { s with ps := s.ps ++ [p] } F' ∧ Moved w w' F' F' ∧ (∀ k, F' k → F k ∨ ((Value.slice av N cc).ownBlock = some k ∧ Pt.own p ≠ [])) ∧ ∀ k, F k → F' k := by
  obtain ⟨fw, fd, fs, qt, ql, a, b, c, Ft, Fl, G, V, h, h1, h2, h3⟩ := h
  have hh := h.held (H := fun k => (Value.slice av N cc).ownBlock = some k ∧ Pt.own p ≠ []) fun k hk => ⟨hu.lt hk.2 hk.1, hu.off hk.2 k hk.1⟩
  refine (prepare_any18 S hh (h1.wide fun k hk => Or.inl hk) h3 hps hlen hm hp hn av N cc hu.ol fun k hk hne => Or.inr ⟨hk, hne⟩).mono ?_
  rintro e w' ⟨rfl, fw', fs', V', g1, g2, g3, g4⟩
  exact ⟨rfl, _, ⟨fw', fd, fs', qt, ql, a, b, c, Ft, Fl, _, V', g1, g2, h2, g3⟩, g4, fun k hk => hk, fun k hk => Or.inl hk⟩
theorem Moved.wide18 (h : Moved w0 w F0 F) (h2 : Moved w w' F' F') (hs : ∀ k, F' k → F k ∨ w0.heap.size ≤ k) : Moved w0 w' F0 F' :=
  ⟨h2.os.trans h.os, h2.tape.trans h.tape, h2.output.trans h.output, Nat.le_trans h.size h2.size, fun k hk hF => (h2.block k (Nat.lt_of_lt_of_le hk h.size) (fun e => by
    rcases hs k e with e | e
    · rcases h.sub k e with e | e
      · exact hF e
      · omega
    · omega)).trans (h.block k hk hF), fun k hk => by
    rcases hs k hk with e | e
    · exact h.sub k e
    · exact Or.inr e⟩
structure Pq18 (LT : Rep11) (LS : Rep17) (w0 w : World) (q : Nat) (s : Pt.St) (F0 F : Nat → Prop) (b13 b15 : Nat) (r : List Value) (z : Int) (u v : Value) (ws os : List O) : Prop where
  ld : LPt18 LT LS w q s F
  mv : Moved w0 w F0 F
  lo : ∀ k, F k → 6 ≤ k
  ans : Kept11 w F b13 r 37
  one : Kept11 w F b15 [.int .i64 z, u, .bool false] 94
  own : Om12 w F u ws
  hi : ∀ k, u.ownBlock = some k → ws ≠ [] → w0.heap.size ≤ k
  ne : ∀ k, u.ownBlock = some k → ws ≠ [] → k ≠ b13
  arg : Om12 w F v os
theorem Pq18.moved {s' : Pt.St} {b13 b15 : Nat} {r : List Value} {z : Int} {u v : Value} {ws os : List O} (h : Pq18 LT LS w0 w q s F0 F b13 b15 r z u v ws os) (hs : Pa.Std w) (hl : LPt18 LT LS w' q s' F') (hm : Moved w w' F F') : Pq18 LT LS w0 w' q s' F0 F' b13 b15 r z u v ws os :=
  ⟨hl, h.mv.trans hm, fun k hk => by
    rcases hm.sub k hk with e | e
    · exact h.lo k e
    · have := hs.size
      omega, h.ans.moved hm, h.one.moved hm, h.own.moved hm, h.hi, h.ne, h.arg.moved hm⟩
theorem Pq18.later (S : Base18 LT LS) {b13 b15 : Nat} {r : List Value} {z : Int} {u v : Value} {ws os : List O} (h : Pq18 LT LS w0 w q s F0 F b13 b15 r z u v ws os) (hs : Pa.Std w) (hb : Below w.heap.size w w') : Pq18 LT LS w0 w' q s F0 F b13 b15 r z u v ws os := h.moved hs (h.ld.below S hb) (Moved.of_below F hb)
theorem Pa.Std.movedP {w w' : World} {F F' : Nat → Prop} (h : Pa.Std w) (hm : Moved w w' F F') (hF : ∀ k, F k → 6 ≤ k) : Pa.Std w' := h.low17 (hm.below h.size hF)
theorem adds_step18 {id : Int} {lk : Lk.St} {os : List O} {k : Nat} {o : O} (ho : os[k]? = some o) (hg : ∀ o ∈ os, Oq.good o = 0) (hb : ∀ o ∈ os, (Pt.wants o).any (Lk.blocks lk id) = false) : Lk.take (Lk.adds id lk ((os.take k).flatMap Pt.wants)) id (Pt.wants o) = (⟨#[]⟩, true, Lk.adds id lk ((os.take (k + 1)).flatMap Pt.wants)) := by
  have hbl : ∀ (ps : List ByteArray) (l : Lk.St) (p : ByteArray), Lk.blocks (Lk.adds id l ps) id p = Lk.blocks l id p := fun ps => by
    induction ps with
    | nil => intro l p; rfl
    | cons a ps ih =>
      intro l p
      show Lk.blocks (Lk.adds id (Lk.add id l a) ps) id p = _
      rw [ih, Lk.blocks_add]
  have hm := List.mem_of_getElem? ho
  have hf := Lk.faulty_ok (s := Lk.adds id lk ((os.take k).flatMap Pt.wants)) (who := id) (ps := Pt.wants o) (Pt.wants_good (hg o hm)) (fun p hp => by
    rw [hbl]
    have h1 := hb o hm
    rw [List.any_eq_false] at h1
    simpa using h1 p hp)
  rw [Lk.take_yes hf, List.take_add_one, ho]
  unfold Lk.adds
  rw [List.flatMap_append, List.foldl_append]
  simp
theorem adds_fine18 {id : Int} (hid : I64 id) {lk : Lk.St} {m : Nat} (hf : Lk.Fine m lk) {os : List O} (k : Nat) (hl : os.length ≤ 16) (hg : ∀ o ∈ os, Oq.good o = 0) (hb : ∀ o ∈ os, (Pt.wants o).any (Lk.blocks lk id) = false) : Lk.Fine (m + 32) (Lk.adds id lk ((os.take k).flatMap Pt.wants)) := by
  refine (hf.adds hid (ps := (os.take k).flatMap Pt.wants) (fun p hp => ?_) (fun p hp => ?_)).mono ?_
  · obtain ⟨o, ho, hp⟩ := List.mem_flatMap.1 hp
    exact Pt.wants_good (hg o (List.mem_of_mem_take ho)) p hp
  · obtain ⟨o, ho, hp⟩ := List.mem_flatMap.1 hp
    have h1 := hb o (List.mem_of_mem_take ho)
    rw [List.any_eq_false] at h1
    simpa using h1 p hp
  · have h1 := Pt.wants_len (os.take k)
    rw [List.length_take] at h1
    omega
end
end Go.Proofs.YtboejbjobjhajaaGreatDoor
