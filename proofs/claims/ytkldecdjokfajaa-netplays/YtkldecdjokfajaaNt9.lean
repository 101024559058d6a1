/- The network as it landed: a block of fields; a row of pointers, each to a message in a block of its own; a set of ways that are cut. -/
import Derived.Test.YtkldecdjokfajaaSpecs9
import Derived.Test.YtkldecdjokfajaaHeld
import Derived.Test.YtkldecdjokfajaaTakeAt
import Derived.Maps.OwnSet
import Derived.Maps.AppendAt
import Derived.Maps.Ext
import Derived.DeepKeys4
namespace Go.Proofs.Ytkldecdjokfajaa
open Go.RowKit

/-- A way, as a key. -/
def wv (x y : Int) : Value := .agg #[.int .i64 x, .int .i64 y]
def wkey (x y : Int) : Lit := .string (keyBytes [.int .i64 x, .int .i64 y])
theorem laid9 : laidOutB Try.prog = true := by kernel_rfl
theorem rowWay : (69 : TypeId) < Try.prog.types.size := of_decide_eq_true (by kernel_rfl)
theorem deepWay : Try.prog.keyType 69 = true := by kernel_rfl
theorem wideWay : (match Try.prog.underlying 69 with | some (.array _ _) | some (.struct _) => true | _ => false) = true := by kernel_rfl
theorem keyed9 : Maps.Keyed Try.prog 69 := Maps.Keyed.of_law (deep_law_laid laid9 (m := 2) (by omega) rowWay (by kernel_rfl) wideWay)
theorem cellsWay : Try.prog.cellsOf 69 = 2 := by kernel_rfl
theorem cellsInt9 : Try.prog.cellsOf 3 = 1 := by kernel_rfl
theorem wf9 {x : Int} (h : 0 ≤ x ∧ x < 64) : (Lit.int .i64 x).wf = true := by
  simp [Lit.wf, IntKind.min, IntKind.max, IntKind.bits, IntKind.signed]
  omega
theorem key9 {x y : Int} (hx : 0 ≤ x ∧ x < 64) (hy : 0 ≤ y ∧ y < 64) : keyOf Try.prog 69 (wv x y) = some (wkey x y) := by
  obtain ⟨n, hn⟩ : ∃ n, Try.prog.types.size = n + 1 := ⟨_, (Nat.succ_pred_eq_of_pos (Nat.lt_of_le_of_lt (Nat.zero_le _) rowWay)).symm⟩
  have h1 := wf9 hx
  have h2 := wf9 hy
  unfold keyOf
  rw [deepWay, hn]
  simp [Program.keyLits, Try.underlying69, Try.underlying3, cellsWay, cellsInt9, Value.cells, Value.formed, wv, h1, h2, wkey]
theorem wkey_inj {x y x' y' : Int} (hx : 0 ≤ x ∧ x < 64) (hy : 0 ≤ y ∧ y < 64) (hx' : 0 ≤ x' ∧ x' < 64) (hy' : 0 ≤ y' ∧ y' < 64) (h : wkey x y = wkey x' y') : x = x' ∧ y = y' := by
  have h1 := keyed9.inj (key9 hx hy) (h ▸ key9 hx' hy')
  unfold wv at h1
  simp at h1
  exact h1

/-! There are not more than 4096 ways. -/
theorem nodup_le {α : Type} : ∀ (l m : List α), l.Nodup → (∀ x ∈ l, x ∈ m) → l.length ≤ m.length
  | [], _, _, _ => Nat.zero_le _
  | a :: l, m, hn, hm => by
    classical
    obtain ⟨h1, h2⟩ := List.nodup_cons.1 hn
    have ha := hm a (by simp)
    have ih := nodup_le l (m.erase a) h2 (fun x hx => (List.mem_erase_of_ne (fun e : x = a => h1 (by rw [← e]; exact hx))).2 (hm x (by simp [hx])))
    have hl := List.length_erase_of_mem ha
    have hp := List.length_pos_of_mem ha
    rw [List.length_cons]
    omega
def ways64 : List Lit := (List.range 64).flatMap fun x : Nat => (List.range 64).map fun y : Nat => wkey (x : Int) (y : Int)
theorem ways64_len : ways64.length = 4096 := by
  simp [ways64, List.length_flatMap]
  decide
theorem ways64_mem {x y : Nat} (hx : x < 64) (hy : y < 64) : wkey (x : Int) (y : Int) ∈ ways64 := by
  unfold ways64
  exact List.mem_flatMap.2 ⟨x, List.mem_range.2 hx, List.mem_map.2 ⟨y, List.mem_range.2 hy, rfl⟩⟩
/-- Keys that are ways. -/
def Ways (D : DataW Nat) : Prop := ∀ kl, Maps.has D kl = true → ∃ x y : Nat, x < 64 ∧ y < 64 ∧ kl = wkey (x : Int) (y : Int)
theorem own_small {w : World} {b n : Nat} {D : DataW Nat} (h : w.ownsMap Try.prog 69 unitElem b n D) (hD : Ways D) : w.ownsMap Try.prog 69 unitElem b 4096 D := by
  obtain ⟨L, e, hp, hk⟩ := h.canon keyed9
  obtain ⟨es, clock, hb, F, hs, hd⟩ := h
  refine ⟨es, clock, hb, F, ?_, hd⟩
  have h1 : L.length = es.size := by
    rw [e] at hd
    simp only [DataW.map.injEq] at hd
    rw [hd, length_sorted]
    simp
  have h2 : (L.map (·.1)).Nodup := by
    unfold List.Nodup
    rw [List.pairwise_map]
    exact Maps.apart_of_rising hp
  have h3 := nodup_le (L.map (·.1)) ways64 h2 (fun kl hkl => by
    obtain ⟨p, hpm, rfl⟩ := List.mem_map.1 hkl
    obtain ⟨x, y, hx, hy, e2⟩ := hD p.1 (by
      rw [e, Maps.has_eq, List.any_eq_true]
      exact ⟨p, hpm, WideAt.sameKey_self (hk p hpm)⟩)
    rw [e2]
    exact ways64_mem hx hy)
  rw [ways64_len, List.length_map] at h3
  omega

/-- A block of cells. -/
def Nk (w : World) (k : Nat) (cs : List Value) (t : TypeId) : Prop := w.heap[k]? = some (.cells cs.toArray t (0, 0))
theorem Nk.cell {w : World} {k : Nat} {cs : List Value} {t : TypeId} (h : Nk w k cs t) (i : Nat) : w.cell? ⟨k, i, none⟩ = cs[i]? := by
  unfold Nk at h
  simp [World.cell?, h]
theorem Nk.free {w : World} {k : Nat} {cs : List Value} {t : TypeId} (h : Nk w k cs t) (i : Nat) : w.frozen? ⟨k, i, none⟩ = false := by
  unfold Nk at h
  simp only [World.frozen?, h]
  rfl
theorem Nk.lt {w : World} {k : Nat} {cs : List Value} {t : TypeId} (h : Nk w k cs t) : k < w.heap.size := (Array.getElem?_eq_some_iff.1 h).1
theorem Nk.set {w : World} {k : Nat} {cs : List Value} {t : TypeId} (h : Nk w k cs t) (i : Nat) (u : Value) : Nk (w.setCell ⟨k, i, none⟩ u) k (cs.set i u) t := by
  unfold Nk at h ⊢
  simp [World.setCell, Array.getElem?_modify, h]
theorem Nk.keep {w w' : World} {k : Nat} {cs : List Value} {t : TypeId} (h : Nk w k cs t) (hk : w'.heap[k]? = w.heap[k]?) : Nk w' k cs t := hk.trans h
theorem Nk.made (w : World) (cs : List Value) (t : TypeId) : Nk (w.alloc (.cells cs.toArray t)) w.heap.size cs t := heap_alloc_new w _

/-- A message in its block, its parts in blocks of G. -/
def Mb (w : World) (p : Nat) (m : Nq.Ms) (G : Nat → Prop) : Prop := ∃ a b, Nk w p [.int .i64 m.fr, .int .i64 m.to, .int .i64 m.kind, a, b] 31 ∧ G p ∧ Mp w m a b G
theorem Mb.keep {w w' : World} {p : Nat} {m : Nq.Ms} {G : Nat → Prop} (h : Mb w p m G) (hk : ∀ k, G k → w'.heap[k]? = w.heap[k]?) : Mb w' p m G := by
  obtain ⟨a, b, h1, h2, h3⟩ := h
  exact ⟨a, b, h1.keep (hk p h2), h2, h3.keep hk⟩
theorem Mb.mono {w : World} {p : Nat} {m : Nq.Ms} {G G' : Nat → Prop} (h : Mb w p m G) (hk : ∀ k, G k → G' k) : Mb w p m G' := by
  obtain ⟨a, b, h1, h2, h3⟩ := h
  exact ⟨a, b, h1, hk p h2, h3.mono hk⟩

/-- The network at q. -/
structure NtU (w : World) (q : Nat) (n : Nq.Nt) (G : Nat → Prop) (mm : Nat) (D : DataW Nat) (v : Value) (ps : List Nat) : Prop where
  blk : Nk w q [.int .i64 (n.nodes : Int), .int .i64 (n.room : Int), v, .map (some mm)] 61
  own : w.ownsMap Try.prog 69 unitElem mm 4096 D
  keys : Ways D
  cut : ∀ x y : Nat, x < n.nodes → y < n.nodes → Maps.has D (wkey (min x y : Nat) (max x y : Nat)) = n.cut x y
  row : w.ownsRow 0 63 1 v n.l.length (ps.map dptr)
  msg : ∀ (j : Nat) m p, n.l[j]? = some m → ps[j]? = some p → Mb w p m G
  gq : ¬ G q
  gm : ¬ G mm
  gv : ∀ k, v.ownBlock = some k → ¬ G k
  glt : ∀ k, G k → k < w.heap.size
/-- All its blocks. -/
def Fq (q mm : Nat) (v : Value) (G : Nat → Prop) : Nat → Prop := fun k => k = q ∨ k = mm ∨ v.ownBlock = some k ∨ G k
def LNt : RepN := fun w q n F => ∃ G mm D v ps, NtU w q n G mm D v ps ∧ (∀ k, F k ↔ Fq q mm v G k)

theorem row_of9 {w : World} {B n s k : Nat} {t : TypeId} {v : Value} {us : List Value} (h : w.ownsRow B t s v n us) (hk : v.ownBlock = some k) : ∃ cur, w.heap[k]? = some (.cells cur t (0, 0)) := by
  rcases h.2 with ⟨rfl, _⟩ | ⟨g, cap, cur, rfl, _, hg, _⟩
  · cases hk
  · simp only [Value.ownBlock, Option.some.injEq] at hk
    subst hk
    exact ⟨cur, hg⟩
section
variable {w w' : World} {q mm : Nat} {n : Nq.Nt} {G : Nat → Prop} {D : DataW Nat} {v : Value} {ps : List Nat}
theorem NtU.qlt (h : NtU w q n G mm D v ps) : q < w.heap.size := h.blk.lt
theorem NtU.mlt (h : NtU w q n G mm D v ps) : mm < w.heap.size := h.own.lt
theorem NtU.vlt (h : NtU w q n G mm D v ps) {k : Nat} (hk : v.ownBlock = some k) : k < w.heap.size := by
  obtain ⟨cur, hc⟩ := row_of9 h.row hk
  exact (Array.getElem?_eq_some_iff.1 hc).1
theorem NtU.flt (h : NtU w q n G mm D v ps) {k : Nat} (hk : Fq q mm v G k) : k < w.heap.size := by
  rcases hk with rfl | rfl | hk | hk
  · exact h.qlt
  · exact h.mlt
  · exact h.vlt hk
  · exact h.glt k hk
theorem NtU.ne_m (h : NtU w q n G mm D v ps) : mm ≠ q := fun e => by
  obtain ⟨es, clock, hb, _⟩ := h.own
  have := h.blk
  unfold Nk at this
  rw [e, this] at hb
  cases hb
theorem NtU.v_m (h : NtU w q n G mm D v ps) : v.ownBlock ≠ some mm := fun e => by
  obtain ⟨es, clock, hb, _⟩ := h.own
  obtain ⟨cur, hc⟩ := row_of9 h.row e
  rw [hb] at hc
  cases hc
theorem NtU.v_q (h : NtU w q n G mm D v ps) : v.ownBlock ≠ some q := fun e => by
  obtain ⟨cur, hc⟩ := row_of9 h.row e
  have h2 := h.blk
  unfold Nk at h2
  rw [h2] at hc
  simp only [Option.some.injEq, Obj.cells.injEq] at hc
  exact absurd hc.2.1 (by decide)
theorem map_keep {b k : Nat} (h : w.ownsMap Try.prog 69 unitElem b k D) (hk : w'.heap[b]? = w.heap[b]?) : w'.ownsMap Try.prog 69 unitElem b k D := by
  obtain ⟨es, clock, hb, r⟩ := h
  exact ⟨es, clock, hk.trans hb, r⟩
theorem NtU.keep (h : NtU w q n G mm D v ps) (hs : w.heap.size ≤ w'.heap.size) (hk : ∀ k, Fq q mm v G k → w'.heap[k]? = w.heap[k]?) : NtU w' q n G mm D v ps :=
  ⟨h.blk.keep (hk q (Or.inl rfl)), map_keep h.own (hk mm (Or.inr (Or.inl rfl))), h.keys, h.cut, row_same9 h.row (fun k e => hk k (Or.inr (Or.inr (Or.inl e)))), fun j m p hm hp => (h.msg j m p hm hp).keep (fun k e => hk k (Or.inr (Or.inr (Or.inr e)))), h.gq, h.gm, h.gv, fun k e => Nat.lt_of_lt_of_le (h.glt k e) hs⟩
theorem NtU.below (h : NtU w q n G mm D v ps) (hb : Below w.heap.size w w') : NtU w' q n G mm D v ps := h.keep hb.size fun k hk => hb.block k (h.flt hk)
theorem NtU.plen (h : NtU w q n G mm D v ps) : ps.length = n.l.length := by have := h.row.1; simp at this; omega
theorem NtU.slice (h : NtU w q n G mm D v ps) : ∃ a c, v = .slice a n.l.length c ∧ (0 < n.l.length → ∃ g, a = some ⟨g, 0, none⟩) := row_shape9 h.row
theorem NtU.le (h : LNt w q n G) : ∀ k, G k → k < w.heap.size := fun k hk => by
  obtain ⟨G', mm, D, v, ps, h1, h2⟩ := h
  exact h1.flt ((h2 k).1 hk)
theorem lnt_keep {F : Nat → Prop} (h : LNt w q n F) (hk : ∀ k, F k → w'.heap[k]? = w.heap[k]?) : LNt w' q n F := by
  obtain ⟨G, mm, D, v, ps, h1, h2⟩ := h
  have h3 : ∀ k, Fq q mm v G k → w'.heap[k]? = w.heap[k]? := fun k e => hk k ((h2 k).2 e)
  have hl : ∀ k, Fq q mm v G k → k < w'.heap.size := fun k e => by
    have h4 := h1.flt e
    have h5 := h3 k e
    rw [Array.getElem?_eq_getElem h4] at h5
    exact (Array.getElem?_eq_some_iff.1 h5).1
  refine ⟨G, mm, D, v, ps, ⟨h1.blk.keep (h3 q (Or.inl rfl)), map_keep h1.own (h3 mm (Or.inr (Or.inl rfl))), h1.keys, h1.cut, row_same9 h1.row (fun k e => h3 k (Or.inr (Or.inr (Or.inl e)))), fun j m p hm hp => (h1.msg j m p hm hp).keep (fun k e => h3 k (Or.inr (Or.inr (Or.inr e)))), h1.gq, h1.gm, h1.gv, fun k e => hl k (Or.inr (Or.inr (Or.inr e)))⟩, h2⟩
end
end Go.Proofs.Ytkldecdjokfajaa
