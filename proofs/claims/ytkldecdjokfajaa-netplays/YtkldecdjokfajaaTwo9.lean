/- Both networks beside one another: the landed one and the reference's; what a call of either leaves of the other. -/
import Derived.Test.YtkldecdjokfajaaRefE9
namespace Go.Proofs.Ytkldecdjokfajaa
open Go.RowKit

structure Two9 (LN : RepN) (W w : World) (q qr : Nat) (n nr : Nq.Nt) (F G : Nat → Prop) (v : Value) (ts : List Mt) (C : List Value) : Prop where
  mine : Mine9 LN W w q n F
  ref : Rf9 w qr nr G v ts C
  apart : ∀ k, F k → ¬ Gq qr G k
  rhi : ∀ k, Gq qr G k → W.heap.size ≤ k

section
variable {LN : RepN} {W w w' : World} {q qr : Nat} {n n' nr nr' : Nq.Nt} {F F' G G' : Nat → Prop} {v v' : Value} {ts ts' : List Mt} {C C' : List Value}
theorem Two9.later (S : Specs9 LN) (h : Two9 LN W w q qr n nr F G v ts C) (hb : Below w.heap.size w w') : Two9 LN W w' q qr n nr F G v ts C :=
  ⟨h.mine.later S hb, h.ref.below hb, h.apart, h.rhi⟩
/-- A call of the landed one. -/
theorem Two9.own (h : Two9 LN W w q qr n nr F G v ts C) (hm : Mine9 LN W w' q n' F') (hmv : Moved w w' F F') : Two9 LN W w' q qr n' nr F' G v ts C :=
  ⟨hm, h.ref.keep hmv.size (fun k hk => hmv.block k (h.ref.lt hk) (fun e => h.apart k e hk)), fun k hk hG => by
    rcases hmv.sub k hk with e | e
    · exact h.apart k e hG
    · have := h.ref.lt hG
      omega, h.rhi⟩
/-- A call of the reference's. -/
theorem Two9.other (S : Specs9 LN) (h : Two9 LN W w q qr n nr F G v ts C) (hr : Rf9 w' qr nr' G' v' ts' C') (hmv : Moved w w' (Gq qr G) (Gq qr G')) : Two9 LN W w' q qr n nr' F G' v' ts' C' :=
  ⟨⟨S.keep h.mine.ln (fun k hk => hmv.block k (S.lt h.mine.ln hk) (h.apart k hk)), h.mine.fine, h.mine.hi, h.mine.below.trans (hmv.below h.mine.below.size h.rhi)⟩, hr, fun k hk hG => by
    rcases hmv.sub k hG with e | e
    · exact h.apart k hk e
    · have := S.lt h.mine.ln hk
      omega, fun k hk => by
    rcases hmv.sub k hk with e | e
    · exact h.rhi k e
    · exact Nat.le_trans h.mine.below.size e⟩
theorem Two9.below (h : Two9 LN W w q qr n nr F G v ts C) : Below W.heap.size W w := h.mine.below

theorem Two9.refSend (S : Specs9 LN) (h : Two9 LN W w q qr n nr F G v ts C) (m : Nq.Ms) (a1 a2 : Option Addr) (n1 c1 n2 c2 : Nat) {K : Nat → Prop} (hp : Mp w m (.slice a1 n1 c1) (.slice a2 n2 c2) K) (hn1 : (∃ ad k c, Value.slice a1 n1 c1 = .slice (some ad) k c) ∨ Value.slice a1 n1 c1 = .slice none 0 0) (hl : Lite m) (t : Bool) (z : Nq.Nt) (ht : Nq.may nr m = t) (hz : Nq.put nr m = z) :
    Calls Try.prog 15 #[dptr qr, .agg #[.int .i64 m.fr, .int .i64 m.to, .int .i64 m.kind, .slice a1 n1 c1, .slice a2 n2 c2]] w fun e w' => e = .returned (.bool t) ∧ ∃ G' v' ts' C', Two9 LN W w' q qr n z F G' v' ts' C' := by
  refine (refSend_any qr nr G v ts C m.fr m.to m.kind a1 a2 n1 c1 n2 c2 w h.ref m.ns m.bs hp.bs.bl hl.bs hl.rows hp.ns.bi hn1 hl.ns).mono ?_
  rintro e w' ⟨rfl, G', v', ts', C', h1, h2⟩
  have e1 : Nq.may nr ⟨m.fr, m.to, m.kind, m.ns, m.bs⟩ = t := ht
  have e2 : Nq.put nr ⟨m.fr, m.to, m.kind, m.ns, m.bs⟩ = z := hz
  rw [e1]
  rw [e2] at h1
  exact ⟨rfl, _, _, _, _, h.other S h1 h2⟩
theorem Two9.refTake (S : Specs9 LN) (h : Two9 LN W w q qr n nr F G v ts C) (k : Int) (m : Nq.Ms) (t : Bool) (z : Nq.Nt) (hm : Nq.at_ nr k = m) (ht : Nq.has nr k = t) (hz : Nq.lose nr k = z) :
    Calls Try.prog 18 #[dptr qr, .int .i64 k] w fun e w' => ∃ a b G' v' ts' C', e = .returned (.tuple #[mv m a b, .bool t]) ∧ Mp w' m a b G' ∧ Two9 LN W w' q qr n z F G' v' ts' C' ∧ Moved w w' (Gq qr G) (Gq qr G') := by
  refine (refTake_any qr nr G v ts C k w h.ref).mono ?_
  rintro e w' ⟨G', v', ts', C', a, b, rfl, h1, h2, h3⟩
  rw [hm] at h1 ⊢
  rw [hz] at h2
  rw [ht]
  exact ⟨a, b, _, _, _, _, rfl, h1, h.other S h2 h3, h3⟩
theorem Two9.refCopy (S : Specs9 LN) (h : Two9 LN W w q qr n nr F G v ts C) (k : Int) (t : Bool) (z : Nq.Nt) (ht : Nq.mayCopy nr k = t) (hz : Nq.copy nr k = z) :
    Calls Try.prog 20 #[dptr qr, .int .i64 k] w fun e w' => e = .returned (.bool t) ∧ ∃ G' v' ts' C', Two9 LN W w' q qr n z F G' v' ts' C' := by
  refine (refCopy_any qr nr G v ts C k w h.ref).mono ?_
  rintro e w' ⟨G', v', ts', C', rfl, h2, h3⟩
  rw [ht]
  rw [hz] at h2
  exact ⟨rfl, _, _, _, _, h.other S h2 h3⟩
end

/-- The reference's, just made. -/
theorem Rf9.new (w : World) (a b : Nat) (ha : a ≤ 64) (hb : b ≤ 65536) (Z : List Value) (hl : Z.length = 4096) (hz : ∀ i, i < 4096 → Z[i]? = some (.bool false)) :
    Rf9 (w.alloc (.cells ((.int .i64 (a : Int)) :: (.int .i64 (b : Int)) :: (.slice none 0 0) :: Z).toArray 42)) w.heap.size (Nq.made a b) (fun _ => False) (.slice none 0 0) [] ((.int .i64 (a : Int)) :: (.int .i64 (b : Int)) :: (.slice none 0 0) :: Z) := by
  refine ⟨heap_alloc_new _ _, by simp [hl], rfl, rfl, rfl, fun x y hx hy => ?_, rfl, Or.inl ⟨rfl, rfl⟩, fun t ht => (by cases ht), id, fun _ h => h.elim, fine_made ha hb⟩
  have e : 3 + x * 64 + y = (x * 64 + y) + 1 + 1 + 1 := by omega
  rw [e, List.getElem?_cons_succ, List.getElem?_cons_succ, List.getElem?_cons_succ]
  exact hz _ (by omega)
/-- Both, just made. -/
theorem two9_new {LN : RepN} (S : Specs9 LN) {W w : World} {q : Nat} {F : Nat → Prop} {a b : Nat} (h : Mine9 LN W w q (Nq.made a b) F) (ha : a ≤ 64) (hb : b ≤ 65536) (Z : List Value) (hl : Z.length = 4096) (hz : ∀ i, i < 4096 → Z[i]? = some (.bool false)) :
    Two9 LN W (w.alloc (.cells ((.int .i64 (a : Int)) :: (.int .i64 (b : Int)) :: (.slice none 0 0) :: Z).toArray 42)) q w.heap.size (Nq.made a b) (Nq.made a b) F (fun _ => False) (.slice none 0 0) [] ((.int .i64 (a : Int)) :: (.int .i64 (b : Int)) :: (.slice none 0 0) :: Z) :=
  ⟨h.later S ((Below.refl _ w).alloc (Nat.le_refl _) _), Rf9.new w a b ha hb Z hl hz, fun k hk hG => by
    rcases hG with e | e
    · have := S.lt h.ln hk
      omega
    · exact e, fun k hk => by
    rcases hk with e | e
    · rw [e]
      exact h.below.size
    · exact e.elim⟩
end Go.Proofs.Ytkldecdjokfajaa
