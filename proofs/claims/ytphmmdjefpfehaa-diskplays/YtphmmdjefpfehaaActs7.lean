/- A script's acts, wherever they lie; what is under way while they are played. -/
import Derived.Test.YtphmmdjefpfehaaLSame7
import Derived.Test.YtphmmdjefpfehaaLAwake7
namespace Go.Proofs.Ytphmmdjefpfehaa
open Go.RowKit

/-- One call of a script. -/
structure Ac where
  op : Int
  n : Int
  s : ByteArray
  t : ByteArray
  b : List UInt8
def acc (a : Ac) (bv : Value) : List Value := [.int .i64 a.op, .int .i64 a.n, .string a.s, .string a.t, bv]
/-- A value is a slice of acts. -/
def Acl (w : World) (v : Value) (acs : List Ac) : Prop := ∃ av k c, v = .slice av k c ∧ k = acs.length ∧ k ≤ c ∧ (av = none → c = 0) ∧ ∀ (j : Nat) a, acs[j]? = some a → ∃ g b bv, av = some ⟨g, b, none⟩ ∧ Bs w bv a.b ∧ ∀ (i : Nat) u, (acc a bv)[i]? = some u → w.cell? ⟨g, b + (j * 5 + i), none⟩ = some u
/-- Numbers of 64 bits, texts that can be. -/
structure AcFit (a : Ac) : Prop where
  n : -9223372036854775808 ≤ a.n ∧ a.n ≤ 9223372036854775807
  s : a.s.size ≤ 9223372036854775807
  t : a.t.size ≤ 9223372036854775807
  b : a.b.length ≤ maxLen
/-- An act's five cells, boxed. -/
structure BoxA (w : World) (q : Nat) (a : Ac) (bv : Value) : Prop where
  c0 : w.cell? ⟨q, 0, none⟩ = some (.int .i64 a.op)
  c1 : w.cell? ⟨q, 1, none⟩ = some (.int .i64 a.n)
  c2 : w.cell? ⟨q, 2, none⟩ = some (.string a.s)
  c3 : w.cell? ⟨q, 3, none⟩ = some (.string a.t)
  c4 : w.cell? ⟨q, 4, none⟩ = some bv
theorem BoxA.made (w : World) (a : Ac) (bv : Value) (t : TypeId) : BoxA (w.alloc (.cells #[.int .i64 a.op, .int .i64 a.n, .string a.s, .string a.t, bv] t)) w.heap.size a bv :=
  ⟨cell?_alloc_at _ _ _ _ _ _ rfl, cell?_alloc_at _ _ _ _ _ _ rfl, cell?_alloc_at _ _ _ _ _ _ rfl, cell?_alloc_at _ _ _ _ _ _ rfl, cell?_alloc_at _ _ _ _ _ _ rfl⟩
theorem BoxA.of {w w' : World} {q : Nat} {a : Ac} {bv : Value} (h : BoxA w q a bv) (hb : w'.heap[q]? = w.heap[q]?) : BoxA w' q a bv :=
  ⟨(World.cell?_of_block hb).trans h.c0, (World.cell?_of_block hb).trans h.c1, (World.cell?_of_block hb).trans h.c2, (World.cell?_of_block hb).trans h.c3, (World.cell?_of_block hb).trans h.c4⟩
theorem BoxA.lt {w : World} {q : Nat} {a : Ac} {bv : Value} (h : BoxA w q a bv) : q < w.heap.size := World.block_lt_of_cell? w ⟨q, 0, none⟩ h.c0

theorem Two7.arg {LD : Rep} {W w : World} {q qr : Nat} {sd sr : Dq.St} {F G : Nat → Prop} {v : Value} {ps : List (Dq.Fl × Value)} (h : Two7 LD W w q qr sd sr F G v ps) {u : Value} {xs : List UInt8} (hv : Bs W u xs) : Bs w u xs ∧ Apart F u xs := by
  refine ⟨hv.below h.below, fun h0 k hk hF => ?_⟩
  have h1 := h.hF k hF
  obtain ⟨g, o, n, c, rfl, _, _, hc⟩ := hv.plain h0
  have hlt := World.block_lt_of_cell? W _ (hc 0 xs[0] (List.getElem?_eq_getElem h0))
  simp only [Value.ownBlock, Option.some.injEq] at hk
  subst hk
  exact absurd hlt (by simpa using h1)

/-- An act is being played: both disks, the act in its box. -/
structure ActS (LD : Rep) (W w : World) (q qr qx : Nat) (sd sr : Dq.St) (F G : Nat → Prop) (v : Value) (ps : List (Dq.Fl × Value)) (a : Ac) (bv : Value) : Prop where
  t : Two7 LD W w q qr sd sr F G v ps
  box : BoxA w qx a bv
  xF : ¬ F qx
  xG : ¬ G qx

theorem ActS.landed {LD : Rep} {W w w' : World} {q qr qx : Nat} {sd sd' sr : Dq.St} {F F' G : Nat → Prop} {v bv : Value} {ps : List (Dq.Fl × Value)} {a : Ac} (h : ActS LD W w q qr qx sd sr F G v ps a bv) (hl : LD w' q sd' F') (hf : Fine sd') (hm : Moved w w' F F') : ActS LD W w' q qr qx sd' sr F' G v ps a bv := by
  refine ⟨h.t.landed hl hf hm, h.box.of (hm.block qx h.box.lt h.xF), fun hk => ?_, h.xG⟩
  rcases hm.sub qx hk with h1 | h1
  · exact h.xF h1
  · have := h.box.lt
    omega
theorem ActS.ref {LD : Rep} (S : Specs7 LD) {W w w' : World} {q qr qx : Nat} {sd sr sr' : Dq.St} {F G : Nat → Prop} {v bv : Value} {ps : List (Dq.Fl × Value)} {a : Ac} (h : ActS LD W w q qr qx sd sr F G v ps a bv) (hr : RefPost w qr sr' G w') (hf : Fine sr') : ∃ G' v' ps', ActS LD W w' q qr qx sd sr' F G' v' ps' a bv := by
  obtain ⟨G', v', ps', hr', hm⟩ := hr
  have hs := h.t.below.size
  refine ⟨G', v', ps', ⟨S.keep h.t.ld (fun k hk => hm.block k (S.lt h.t.ld hk) (h.t.ap k hk)), hr', h.t.fd, hf, fun k hk hG => ?_, h.t.hF, fun k hk => ?_, h.t.below.trans (hm.below hs h.t.hG)⟩, h.box.of (hm.block qx h.box.lt h.xG), h.xF, fun hk => ?_⟩
  · rcases hm.sub k hG with h1 | h1
    · exact h.t.ap k hk h1
    · have := S.lt h.t.ld hk
      omega
  · rcases hm.sub k hk with h1 | h1
    · exact h.t.hG k h1
    · omega
  · rcases hm.sub qx hk with h1 | h1
    · exact h.xG h1
    · have := h.box.lt
      omega
theorem ActS.later {LD : Rep} (S : Specs7 LD) {W w w' : World} {q qr qx : Nat} {sd sr : Dq.St} {F G : Nat → Prop} {v bv : Value} {ps : List (Dq.Fl × Value)} {a : Ac} (h : ActS LD W w q qr qx sd sr F G v ps a bv) (hb : Below w.heap.size w w') : ActS LD W w' q qr qx sd sr F G v ps a bv :=
  ⟨h.t.later S hb, h.box.of (hb.block qx h.box.lt), h.xF, h.xG⟩

/-- What is asked of a state behind k calls. -/
def Few7 (st : Dq.St) (k : Nat) : Prop := st.fs.length ≤ k ∧ st.lives ≤ k + 1 ∧ Fine st
theorem few_append {st : Dq.St} {k : Nat} (h : Few7 st k) (hk : k ≤ 900) (s : ByteArray) (b : List UInt8) : Few7 (Dq.append st s b).2 (k + 1) := by
  obtain ⟨h1, h2, h3⟩ := h
  refine ⟨?_, ?_, fine_append h3 s b (by omega)⟩
  · unfold Dq.append
    split
    · simp only []; omega
    split
    · simp only []; omega
    split
    · simp only [Dq.len_lay]; omega
    · simp only [Dq.len_upd]; omega
  · unfold Dq.append
    split
    · simp only []; omega
    split
    · simp only []; omega
    split <;> (simp only []; omega)
theorem few_sync {st : Dq.St} {k : Nat} (h : Few7 st k) (s : ByteArray) : Few7 (Dq.sync st s).2 (k + 1) := by
  obtain ⟨h1, h2, h3⟩ := h
  refine ⟨?_, ?_, fine_sync h3 s⟩
  · unfold Dq.sync
    split
    · simp only [Dq.len_upd]; omega
    · simp only []; omega
  · unfold Dq.sync
    split <;> (simp only []; omega)
theorem few_cut {st : Dq.St} {k : Nat} (h : Few7 st k) (s : ByteArray) (n : Int) : Few7 (Dq.cut st s n).2 (k + 1) := by
  obtain ⟨h1, h2, h3⟩ := h
  refine ⟨?_, ?_, fine_cut h3 s n⟩
  · unfold Dq.cut
    split
    · split
      · simp only []; omega
      · simp only [Dq.len_upd]; omega
    · simp only []; omega
  · unfold Dq.cut
    split
    · split <;> (simp only []; omega)
    · simp only []; omega
theorem few_drop {st : Dq.St} {k : Nat} (h : Few7 st k) (s : ByteArray) : Few7 (Dq.drop st s).2 (k + 1) := by
  obtain ⟨h1, h2, h3⟩ := h
  have h4 := Dq.len_del s st.fs
  refine ⟨?_, ?_, fine_drop h3 s⟩
  · unfold Dq.drop
    split <;> (simp only []; omega)
  · unfold Dq.drop
    split <;> (simp only []; omega)
theorem few_rename {st : Dq.St} {k : Nat} (h : Few7 st k) (hk : k ≤ 900) (s t : ByteArray) : Few7 (Dq.rename st s t).2 (k + 1) := by
  obtain ⟨h1, h2, h3⟩ := h
  have h4 := Dq.len_del s st.fs
  have h5 := Dq.len_del t (Dq.del s st.fs)
  refine ⟨?_, ?_, fine_rename h3 s t (by omega)⟩
  · unfold Dq.rename
    split
    · simp only []; omega
    split
    · simp only []; omega
    cases Dq.get s st.fs with
    | none => simp only []; omega
    | some f =>
      simp only []
      split
      · simp only []; omega
      · simp only [Dq.len_lay]; omega
  · unfold Dq.rename
    split
    · simp only []; omega
    split
    · simp only []; omega
    cases Dq.get s st.fs with
    | none => simp only []; omega
    | some f =>
      simp only []
      split <;> (simp only []; omega)
theorem few_crash {st : Dq.St} {k : Nat} (h : Few7 st k) (n : Int) : Few7 (Dq.crash st n) (k + 1) := by
  obtain ⟨h1, h2, h3⟩ := h
  refine ⟨?_, ?_, fine_crash h3 n⟩
  · simp only [Dq.crash, List.length_map]; omega
  · simp only [Dq.crash]; omega
theorem few_on {st : Dq.St} {k : Nat} (h : Few7 st k) (hk : k ≤ 900) : Few7 (Dq.on st) (k + 1) := by
  obtain ⟨h1, h2, h3⟩ := h
  refine ⟨?_, ?_, fine_on h3 (by omega)⟩
  · simp only [Dq.on]; omega
  · simp only [Dq.on]; omega

/-- The reference's disk, new. -/
theorem ref_new {w : World} (R : Nat) (t : TypeId) : RefC (w.alloc (.cells #[.int .i64 (R : Int), .slice none 0 0, .bool false, .int .i64 1] t)) w.heap.size ⟨R, [], false, 1⟩ (fun k => k = w.heap.size) (.slice none 0 0) [] :=
  ⟨cell?_alloc_at _ _ _ _ _ _ rfl, cell?_alloc_at _ _ _ _ _ _ rfl, cell?_alloc_at _ _ _ _ _ _ rfl, cell?_alloc_at _ _ _ _ _ _ rfl, fun i => (by simp), ⟨World.ownsRow_nil _ _ _ _, fun p hp => (by cases hp)⟩, rfl, rfl, fun k hk => (by cases hk), fun p hp => (by cases hp), fun k hk => (by rw [World.size_alloc, hk]; omega)⟩
end Go.Proofs.Ytphmmdjefpfehaa
