/- Messages in memory: numbers and rows of bytes, and in which blocks they lie. -/
import Derived.Test.YtkldecdjokfajaaPlainN9
import Derived.Test.YtkldecdjokfajaaRows2
namespace Go.Proofs.Ytkldecdjokfajaa
open Go.RowKit

/-- Numbers, in blocks of K. -/
def Nv (w : World) (v : Value) (zs : List Int) (K : Nat → Prop) : Prop := ∃ av k c, v = .slice av k c ∧ k = zs.length ∧ ∀ (j : Nat) z, zs[j]? = some z → ∃ g o, av = some ⟨g, o, none⟩ ∧ w.cell? ⟨g, o + j, none⟩ = some (.int .i64 z) ∧ K g
/-- Rows of bytes, in blocks of K. -/
def Bv (w : World) (v : Value) (ls : List (List UInt8)) (K : Nat → Prop) : Prop := ∃ av k c, v = .slice av k c ∧ k = ls.length ∧ ∀ (j : Nat) xs, ls[j]? = some xs → ∃ g o u, av = some ⟨g, o, none⟩ ∧ w.cell? ⟨g, o + j, none⟩ = some u ∧ Bs w u xs ∧ K g ∧ (0 < xs.length → ∀ k, u.ownBlock = some k → K k)

theorem cell_same {w w' : World} {a : Addr} (h : w'.heap[a.block]? = w.heap[a.block]?) : w'.cell? a = w.cell? a := World.cell?_of_block h
theorem Bs.same {w w' : World} {v : Value} {xs : List UInt8} (h : Bs w v xs) (hk : 0 < xs.length → ∀ k, v.ownBlock = some k → w'.heap[k]? = w.heap[k]?) : Bs w' v xs := by
  obtain ⟨ao, n, c, rfl, hn, hs⟩ := h
  refine ⟨ao, n, c, rfl, hn, hs.cap, hs.nil, fun ad had j u hu => ?_⟩
  have h0 : 0 < xs.length := by
    have := (List.getElem?_eq_some_iff.1 hu).1
    rw [bc_len] at this
    omega
  have hb : (ad.add j).block = ad.block := by simp only [Addr.add]; split <;> rfl
  refine (cell_same (w := w) ?_).trans (hs.cells ad had j u hu)
  rw [hb]
  exact hk h0 ad.block (by rw [had]; rfl)

section
variable {w w' : World} {v : Value} {zs : List Int} {ls : List (List UInt8)} {K K' : Nat → Prop}
theorem Nv.keep (h : Nv w v zs K) (hk : ∀ k, K k → w'.heap[k]? = w.heap[k]?) : Nv w' v zs K := by
  obtain ⟨av, k, c, hv, hl, hc⟩ := h
  refine ⟨av, k, c, hv, hl, fun j z hz => ?_⟩
  obtain ⟨g, o, ha, hcell, hg⟩ := hc j z hz
  exact ⟨g, o, ha, (cell_same (hk g hg)).trans hcell, hg⟩
theorem Nv.mono (h : Nv w v zs K) (hk : ∀ k, K k → K' k) : Nv w v zs K' := by
  obtain ⟨av, k, c, hv, hl, hc⟩ := h
  refine ⟨av, k, c, hv, hl, fun j z hz => ?_⟩
  obtain ⟨g, o, ha, hcell, hg⟩ := hc j z hz
  exact ⟨g, o, ha, hcell, hk g hg⟩
theorem Nv.bi (h : Nv w v zs K) : Bi w v zs := by
  obtain ⟨av, k, c, hv, hl, hc⟩ := h
  refine ⟨av, k, c, hv, hl, fun j z hz => ?_⟩
  obtain ⟨g, o, ha, hcell, _⟩ := hc j z hz
  exact ⟨g, o, ha, hcell⟩
theorem Nv.nil (w : World) (K : Nat → Prop) : Nv w (.slice none 0 0) [] K := ⟨_, _, _, rfl, rfl, fun j z h => by simp at h⟩
theorem Bv.keep (h : Bv w v ls K) (hk : ∀ k, K k → w'.heap[k]? = w.heap[k]?) : Bv w' v ls K := by
  obtain ⟨av, k, c, hv, hl, hc⟩ := h
  refine ⟨av, k, c, hv, hl, fun j z hz => ?_⟩
  obtain ⟨g, o, u, ha, hcell, hb, hg, hu⟩ := hc j z hz
  exact ⟨g, o, u, ha, (cell_same (hk g hg)).trans hcell, hb.same (fun h0 k e => hk k (hu h0 k e)), hg, hu⟩
theorem Bv.mono (h : Bv w v ls K) (hk : ∀ k, K k → K' k) : Bv w v ls K' := by
  obtain ⟨av, k, c, hv, hl, hc⟩ := h
  refine ⟨av, k, c, hv, hl, fun j z hz => ?_⟩
  obtain ⟨g, o, u, ha, hcell, hb, hg, hu⟩ := hc j z hz
  exact ⟨g, o, u, ha, hcell, hb, hk g hg, fun h0 k e => hk k (hu h0 k e)⟩
theorem Bv.bl (h : Bv w v ls K) : Bl w v ls := by
  obtain ⟨av, k, c, hv, hl, hc⟩ := h
  refine ⟨av, k, c, hv, hl, fun j z hz => ?_⟩
  obtain ⟨g, o, u, ha, hcell, hb, _⟩ := hc j z hz
  exact ⟨g, o, u, ha, hcell, hb⟩
theorem Bv.nil (w : World) (K : Nat → Prop) : Bv w (.slice none 0 0) [] K := ⟨_, _, _, rfl, rfl, fun j z h => by simp at h⟩
/-- What a call owns lies in its own blocks. -/
theorem Nv.own {B : Nat} (h : w.ownsRow B 2 1 v zs.length (zs.map (Value.int .i64))) : Nv w v zs (fun k => B ≤ k) := by
  rcases h.2 with ⟨rfl, h0⟩ | ⟨g, cap, cur, rfl, hb, _⟩
  · obtain rfl : zs = [] := List.length_eq_zero_iff.1 h0
    exact Nv.nil _ _
  · refine ⟨_, _, _, rfl, rfl, fun j z hz => ⟨g, 0, rfl, ?_, hb⟩⟩
    have hj := (List.getElem?_eq_some_iff.1 hz).1
    rw [Nat.zero_add, h.cellAt j (by omega), List.getElem?_map, hz]
    rfl
theorem Bv.own {B : Nat} (h : Lo w B v ls) : Bv w v ls (fun k => B ≤ k) := by
  obtain ⟨us, h1, h2⟩ := h
  have hul : us.length = ls.length := by have := h1.1; omega
  rcases h1.2 with ⟨rfl, h0⟩ | ⟨g, cap, cur, rfl, hb, _⟩
  · obtain rfl : ls = [] := List.length_eq_zero_iff.1 h0
    exact Bv.nil _ _
  · refine ⟨_, _, _, rfl, rfl, fun j xs hx => ?_⟩
    have hj := (List.getElem?_eq_some_iff.1 hx).1
    have hu : us[j]? = some (us[j]'(by omega)) := List.getElem?_eq_getElem _
    have h3 := h2 j xs _ hx hu
    exact ⟨g, 0, _, rfl, by rw [Nat.zero_add, h1.cellAt j (by omega), hu], Bs.own h3, hb, fun _ k e => (h3.lt k e).1⟩
end

/-- A row that a call owns, as a slice. -/
theorem row_shape9 {w : World} {B n s : Nat} {t : TypeId} {v : Value} {us : List Value} (h : w.ownsRow B t s v n us) : ∃ a c, v = .slice a n c ∧ (0 < n → ∃ g, a = some ⟨g, 0, none⟩) := by
  rcases h.2 with ⟨rfl, rfl⟩ | ⟨g, cap, cur, rfl, _⟩
  · exact ⟨_, _, rfl, fun h => absurd h (by decide)⟩
  · exact ⟨_, _, rfl, fun _ => ⟨g, rfl⟩⟩
theorem row_same9 {w w' : World} {B n s : Nat} {t : TypeId} {v : Value} {us : List Value} (h : w.ownsRow B t s v n us) (hk : ∀ k, v.ownBlock = some k → w'.heap[k]? = w.heap[k]?) : w'.ownsRow B t s v n us := by
  refine ⟨h.1, ?_⟩
  rcases h.2 with h1 | ⟨g, cap, cur, e, h1, h2, h3⟩
  · exact Or.inl h1
  · exact Or.inr ⟨g, cap, cur, e, h1, by rw [hk g (by rw [e]; rfl)]; exact h2, h3⟩
/-- A message as a value; its numbers and rows lie elsewhere. -/
def mv (m : Nq.Ms) (a b : Value) : Value := .agg #[.int .i64 m.fr, .int .i64 m.to, .int .i64 m.kind, a, b]
/-- A message's parts, in blocks of K. -/
structure Mp (w : World) (m : Nq.Ms) (a b : Value) (K : Nat → Prop) : Prop where
  ns : Nv w a m.ns K
  bs : Bv w b m.bs K
theorem Mp.keep {w w' : World} {m : Nq.Ms} {a b : Value} {K : Nat → Prop} (h : Mp w m a b K) (hk : ∀ k, K k → w'.heap[k]? = w.heap[k]?) : Mp w' m a b K := ⟨h.ns.keep hk, h.bs.keep hk⟩
theorem Mp.mono {w : World} {m : Nq.Ms} {a b : Value} {K K' : Nat → Prop} (h : Mp w m a b K) (hk : ∀ k, K k → K' k) : Mp w m a b K' := ⟨h.ns.mono hk, h.bs.mono hk⟩
theorem Mp.zero (w : World) (K : Nat → Prop) : Mp w Nq.Ms.zero (.slice none 0 0) (.slice none 0 0) K := ⟨Nv.nil _ _, Bv.nil _ _⟩
/-- Messages in a row of five cells each, in blocks of K. -/
def Ml (w : World) (v : Value) (ms : List Nq.Ms) (K : Nat → Prop) : Prop := ∃ av k c, v = .slice av k c ∧ k = ms.length ∧ (av = none → k = 0) ∧ ∀ (j : Nat) m, ms[j]? = some m → ∃ g o a b, av = some ⟨g, o, none⟩ ∧ K g ∧ w.cell? ⟨g, o + j * 5, none⟩ = some (.int .i64 m.fr) ∧ w.cell? ⟨g, o + j * 5 + 1, none⟩ = some (.int .i64 m.to) ∧ w.cell? ⟨g, o + j * 5 + 2, none⟩ = some (.int .i64 m.kind) ∧ w.cell? ⟨g, o + j * 5 + 3, none⟩ = some a ∧ w.cell? ⟨g, o + j * 5 + 4, none⟩ = some b ∧ Mp w m a b K
theorem Ml.keep {w w' : World} {v : Value} {ms : List Nq.Ms} {K : Nat → Prop} (h : Ml w v ms K) (hk : ∀ k, K k → w'.heap[k]? = w.heap[k]?) : Ml w' v ms K := by
  obtain ⟨av, k, c, hv, hl, hn, hc⟩ := h
  refine ⟨av, k, c, hv, hl, hn, fun j m hm => ?_⟩
  obtain ⟨g, o, a, b, h1, h2, c0, c1, c2, c3, c4, h3⟩ := hc j m hm
  have e : ∀ i, w'.cell? ⟨g, i, none⟩ = w.cell? ⟨g, i, none⟩ := fun i => cell_same (hk g h2)
  exact ⟨g, o, a, b, h1, h2, (e _).trans c0, (e _).trans c1, (e _).trans c2, (e _).trans c3, (e _).trans c4, h3.keep hk⟩
theorem Ml.nil (w : World) (K : Nat → Prop) : Ml w (.slice none 0 0) [] K := ⟨_, _, _, rfl, rfl, fun _ => rfl, fun j m h => by simp at h⟩
/-- One message, just written down. -/
theorem Ml.one {w : World} {m : Nq.Ms} {a b : Value} {K : Nat → Prop} (t : TypeId) (h : Mp w m a b K) (hK : ∀ k, K k → k < w.heap.size) : Ml (w.alloc (.cells #[.int .i64 m.fr, .int .i64 m.to, .int .i64 m.kind, a, b] t)) (.slice (some ⟨w.heap.size, 0, none⟩) 1 1) [m] (fun k => K k ∨ k = w.heap.size) := by
  have hb := (Below.refl w.heap.size w).alloc (Nat.le_refl _) (.cells #[.int .i64 m.fr, .int .i64 m.to, .int .i64 m.kind, a, b] t)
  refine ⟨_, _, _, rfl, rfl, (fun e => by cases e), fun j x hx => ?_⟩
  match j, hx with
  | 0, hx =>
    simp at hx
    subst hx
    exact ⟨w.heap.size, 0, a, b, rfl, Or.inr rfl, cell?_alloc_at _ _ _ _ _ _ rfl, cell?_alloc_at _ _ _ _ _ _ rfl, cell?_alloc_at _ _ _ _ _ _ rfl, cell?_alloc_at _ _ _ _ _ _ rfl, cell?_alloc_at _ _ _ _ _ _ rfl, (h.keep (fun k hk => hb.block k (hK k hk))).mono (fun k hk => Or.inl hk)⟩
  | (j + 1), hx => simp at hx
end Go.Proofs.Ytkldecdjokfajaa
