/- Failures in plain words; what a Fail has under way. -/
import Derived.Test.YtebmcjhhoionbabRepV
namespace Go.Proofs.Ytebmcjhhoionbab
open Go.RowKit

/-- One result of a failure. -/
def Rq.skip (e : Int) : X := ⟨e, ⟨#[]⟩, ⟨#[]⟩, [], 0, 0, 0, 0, 0, 0, 0⟩
/-- The results of a failure. -/
def Rq.fails (e at_ : Int) (n : Nat) : List X := (List.range n).map fun (i : Nat) => Rq.skip (if (i : Int) = at_ then e else 14)
/-- A failure. -/
def Rq.fail (num e at_ n : Int) : Rp := ⟨num, 0, e, at_, if n < 0 ∨ 16 < n then [] else Rq.fails e at_ n.toNat⟩
/-- Nothing. -/
def Rq.zero : Rp := ⟨0, 0, 0, 0, []⟩

theorem fails_more (e at_ : Int) (k : Nat) : Rq.fails e at_ (k + 1) = Rq.fails e at_ k ++ [Rq.skip (if (k : Int) = at_ then e else 14)] := by
  unfold Rq.fails
  rw [List.range_succ, List.map_append]
  rfl

theorem fails_len (e at_ : Int) (k : Nat) : (Rq.fails e at_ k).length = k := by simp [Rq.fails]

/-- What a Fail has under way. -/
structure FailS (w wr : World) (q0 q1 : Nat) (r : Rp) (v : Value) (xs : List X) : Prop where
  ans : RepV wr q0 Rq.zero (.slice none 0 0)
  rep : RepV wr q1 r v
  own : Xo wr (q1 + 1) v (xs.map fun x => (x, .slice none 0 0))
  bare : ∀ x ∈ xs, x.names = []
  h0 : w.heap.size ≤ q0
  h1 : q0 < q1
  below : Below w.heap.size w wr

theorem FailS.push {w wr wx w' : World} {q0 q1 : Nat} {r : Rp} {v v' : Value} {xs : List X} {x : X} (h : FailS w wr q0 q1 r v xs) (hx : x.names = []) (hb : Below wr.heap.size wr wx) (hX : Xo w' (q1 + 1) v' ((xs ++ [x]).map fun x => (x, .slice none 0 0))) (hg : wx.grownBy w' v.ownBlock) :
    FailS w (w'.setCell ⟨q1, 4, none⟩ v') q0 q1 r v' (xs ++ [x]) := by
  have hlt := h.rep.lt
  obtain ⟨k, hk, hBk⟩ := h.own.where_ hlt (grownBy_below hb) hg
  have hset := grownBy_setCell w' ⟨q1, 4, none⟩ v'
  have h1 := h.h1
  have h0 := h.h0
  refine ⟨(h.ans.grown hk (by omega)).grown hset (by show q0 ≠ q1; omega), (h.rep.grown hk (by omega)).set4 v', hX.kept hset (Or.inl (by show q1 < q1 + 1; omega)), fun y hy => ?_, h.h0, h.h1, Below.reader (Below.reader h.below hk (Nat.le_refl _) (by omega)) hset (Nat.le_refl _) (by show w.heap.size ≤ q1; omega)⟩
  rcases List.mem_append.1 hy with hy | hy
  · exact h.bare y hy
  · simp only [List.mem_cons, List.not_mem_nil, or_false] at hy
    subst hy
    exact hx

theorem FailS.rl {w wr : World} {q0 q1 : Nat} {r : Rp} {v : Value} {xs : List X} (h : FailS w wr q0 q1 r v xs) : Rl wr v xs := by
  have := h.own.rl
  rw [List.map_map] at this
  have e : ((fun p : X × Value => p.1) ∘ fun x : X => (x, Value.slice none 0 0)) = id := rfl
  rw [e, List.map_id] at this
  exact this

/-- The reply is written into the answer's place. -/
theorem FailS.told {w wr : World} {q0 q1 : Nat} {r : Rp} {v : Value} {xs : List X} (h : FailS w wr q0 q1 r v xs) :
    Below w.heap.size w (((((wr.setCell ⟨q0, 0, none⟩ (.int .i64 r.num)).setCell ⟨q0, 1, none⟩ (.int .i64 r.zxid)).setCell ⟨q0, 2, none⟩ (.int .i64 r.err)).setCell ⟨q0, 3, none⟩ (.int .i64 r.at_)).setCell ⟨q0, 4, none⟩ v) ∧
    BoxR (((((wr.setCell ⟨q0, 0, none⟩ (.int .i64 r.num)).setCell ⟨q0, 1, none⟩ (.int .i64 r.zxid)).setCell ⟨q0, 2, none⟩ (.int .i64 r.err)).setCell ⟨q0, 3, none⟩ (.int .i64 r.at_)).setCell ⟨q0, 4, none⟩ v) q0 r v ∧
    Rl (((((wr.setCell ⟨q0, 0, none⟩ (.int .i64 r.num)).setCell ⟨q0, 1, none⟩ (.int .i64 r.zxid)).setCell ⟨q0, 2, none⟩ (.int .i64 r.err)).setCell ⟨q0, 3, none⟩ (.int .i64 r.at_)).setCell ⟨q0, 4, none⟩ v) v xs := by
  obtain ⟨h1, h2⟩ := h.ans.all5 r v
  refine ⟨Below.reader h.below h2 (Nat.le_refl _) h.h0, h1, ?_⟩
  have hX := h.own.kept h2 (Or.inl (by have := h.h1; omega))
  have := hX.rl
  rw [List.map_map] at this
  have e : ((fun p : X × Value => p.1) ∘ fun x : X => (x, Value.slice none 0 0)) = id := rfl
  rw [e, List.map_id] at this
  exact this
end Go.Proofs.Ytebmcjhhoionbab
