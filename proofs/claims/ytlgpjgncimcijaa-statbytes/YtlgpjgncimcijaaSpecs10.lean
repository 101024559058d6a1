/- What stat's calls are asked to answer (to be proved of the landed code). -/
import Derived.Test.YtlgpjgncimcijaaPlainK10
import Derived.Test.YtlgpjgncimcijaaCells
import Derived.Test.YtlgpjgncimcijaaStrs
namespace Go.Proofs.Ytlgpjgncimcijaa
open Go.RowKit

/-- A node's cells; its names lie elsewhere. -/
def k10 (n : Kq.Kn) (v : Value) : List Value := [.int .i64 n.made, .int .i64 n.changed, .int .i64 n.ver, .int .i64 n.kids, .int .i64 n.owner, .int .i64 n.len, .int .i64 n.cnt, .string n.data, .int .i64 n.next, v]
def kv (n : Kq.Kn) (v : Value) : Value := .agg #[.int .i64 n.made, .int .i64 n.changed, .int .i64 n.ver, .int .i64 n.kids, .int .i64 n.owner, .int .i64 n.len, .int .i64 n.cnt, .string n.data, .int .i64 n.next, v]
/-- Numbers that an int may hold; not too many names, none too long. -/
structure Fine10 (n : Kq.Kn) : Prop where
  ver : -9223372036854775808 ≤ n.ver ∧ n.ver ≤ 9223372036854775807
  kids : -9223372036854775808 ≤ n.kids ∧ n.kids ≤ 9223372036854775807
  next : -9223372036854775808 ≤ n.next ∧ n.next ≤ 9223372036854775807
  many : n.names.length ≤ 1000
  long : ∀ s ∈ n.names, s.size ≤ 20000
  data : n.data.size ≤ 20000
/-- A node in its block, its names in a row that nobody else has. -/
structure Own10 (w : World) (q : Nat) (n : Kq.Kn) (v : Value) : Prop where
  blk : Cb w q (k10 n v) 27
  row : w.ownsRow 0 9 1 v n.names.length (sc n.names)
  rises : Kq.Rises n.names
def Fn (q : Nat) (v : Value) : Nat → Prop := fun k => k = q ∨ v.ownBlock = some k

structure Specs10 : Prop where
  new : ∀ (z o : Int) (d : ByteArray) (w : World), d.size ≤ 20000 →
    Calls Try.prog 10 #[.int .i64 z, .int .i64 o, .string d] w fun e w' => ∃ a c, e = .returned (kv (Kq.new z o d) (.slice a 0 c)) ∧ w'.ownsRow w.heap.size 9 1 (.slice a 0 c) 0 [] ∧ Below w.heap.size w w'
  write : ∀ (q : Nat) (n : Kq.Kn) (v : Value) (z : Int) (d : ByteArray) (w : World), Cb w q (k10 n v) 27 → Fine10 n → d.size ≤ 20000 →
    Calls Try.prog 13 #[dptr q, .int .i64 z, .string d] w fun e w' => e = .returned (.tuple #[]) ∧ Cb w' q (k10 (Kq.write n z d) v) 27 ∧ w.grownBy w' (some q)
  add : ∀ (q : Nat) (n : Kq.Kn) (v : Value) (s : ByteArray) (w : World), Own10 w q n v → Fine10 n → s.size ≤ 20000 →
    Calls Try.prog 11 #[dptr q, .string s] w fun e w' => ∃ v', e = .returned (.bool (!Kq.has n.names s)) ∧ Own10 w' q (Kq.add n s) v' ∧ Moved w w' (Fn q v) (Fn q v')
  remove : ∀ (q : Nat) (n : Kq.Kn) (v : Value) (s : ByteArray) (w : World), Own10 w q n v → Fine10 n → s.size ≤ 20000 →
    Calls Try.prog 12 #[dptr q, .string s] w fun e w' => ∃ v', e = .returned (.bool (Kq.has n.names s)) ∧ Own10 w' q (Kq.remove n s) v' ∧ Moved w w' (Fn q v) (Fn q v')
  eph : ∀ (q : Nat) (n : Kq.Kn) (v : Value) (w : World), Cb w q (k10 n v) 27 →
    Calls Try.prog 16 #[dptr q] w fun e w' => e = .returned (.bool (decide (n.owner ≠ 0))) ∧ Below w.heap.size w w'

theorem more_fit {n : Int} (h : -9223372036854775808 ≤ n ∧ n ≤ 9223372036854775807) : -9223372036854775808 ≤ Kq.more n ∧ Kq.more n ≤ 9223372036854775807 := by
  unfold Kq.more
  split <;> omega
theorem fine_new {z o : Int} {d : ByteArray} (h : d.size ≤ 20000) : Fine10 (Kq.new z o d) := ⟨by simp [Kq.new], by simp [Kq.new], by simp [Kq.new], by simp [Kq.new], by simp [Kq.new], h⟩
theorem fine_write {n : Kq.Kn} (h : Fine10 n) {z : Int} {d : ByteArray} (hd : d.size ≤ 20000) : Fine10 (Kq.write n z d) := ⟨more_fit h.ver, h.kids, h.next, h.many, h.long, hd⟩
theorem fine_add {n : Kq.Kn} (h : Fine10 n) {s : ByteArray} (hs : s.size ≤ 20000) (hm : n.names.length < 1000) : Fine10 (Kq.add n s) := by
  cases hh : Kq.has n.names s with
  | true => rw [Kq.add_no hh]; exact h
  | false =>
    rw [Kq.add_yes hh]
    exact ⟨h.ver, more_fit h.kids, more_fit h.next, by show (Kq.ins n.names s).length ≤ 1000; rw [Kq.len_ins]; omega, fun x hx => by
      rcases Kq.mem_ins.1 hx with rfl | hx
      · exact hs
      · exact h.long x hx, h.data⟩
theorem fine_remove {n : Kq.Kn} (h : Fine10 n) (s : ByteArray) : Fine10 (Kq.remove n s) := by
  cases hh : Kq.has n.names s with
  | false => rw [Kq.remove_no hh]; exact h
  | true =>
    rw [Kq.remove_yes hh]
    exact ⟨h.ver, more_fit h.kids, h.next, Nat.le_trans (List.length_filter_le _ _) h.many, fun x hx => h.long x (Kq.mem_del.1 hx).1, h.data⟩

/-- A node that a statement has made. -/
structure Mine10 (W w : World) (q : Nat) (n : Kq.Kn) (v : Value) : Prop where
  own : Own10 w q n v
  fine : Fine10 n
  hi : ∀ k, Fn q v k → W.heap.size ≤ k
  below : Below W.heap.size W w
section
variable {W w w' : World} {q : Nat} {n n' : Kq.Kn} {v v' : Value}
theorem Own10.keep (h : Own10 w q n v) (hk : ∀ k, Fn q v k → w'.heap[k]? = w.heap[k]?) : Own10 w' q n v := ⟨h.blk.keep (hk q (Or.inl rfl)), row_stays h.row (fun k e => hk k (Or.inr e)), h.rises⟩
theorem Own10.flt (h : Own10 w q n v) {k : Nat} (hk : Fn q v k) : k < w.heap.size := by
  rcases hk with rfl | hk
  · exact h.blk.lt
  · exact (h.row.lt k hk).2
theorem Own10.vne (h : Own10 w q n v) : v.ownBlock ≠ some q := h.blk.apart h.row (by decide)
theorem Mine10.later (h : Mine10 W w q n v) (hb : Below w.heap.size w w') : Mine10 W w' q n v := ⟨h.own.keep (fun k hk => hb.block k (h.own.flt hk)), h.fine, h.hi, h.below.trans (hb.mono h.below.size)⟩
theorem Mine10.step (h : Mine10 W w q n v) (ho : Own10 w' q n' v') (hf : Fine10 n') (hm : Moved w w' (Fn q v) (Fn q v')) : Mine10 W w' q n' v' :=
  ⟨ho, hf, fun k hk => by
    rcases hm.sub k hk with e | e
    · exact h.hi k e
    · exact Nat.le_trans h.below.size e, h.below.trans (hm.below h.below.size h.hi)⟩
/-- A node that was answered, written down. -/
theorem mine10_made {a : Option Addr} {c : Nat} (hW : Below W.heap.size W w) (hb : Below w.heap.size w w') (hr : w'.ownsRow w.heap.size 9 1 (.slice a 0 c) 0 []) (hn : n.names = []) (hf : Fine10 n) :
    Mine10 W (w'.alloc (.cells (k10 n (.slice a 0 c)).toArray 27)) w'.heap.size n (.slice a 0 c) := by
  have hs := hW.size
  have hs2 := hb.size
  have hba := (Below.refl _ w').alloc (Nat.le_refl _) (.cells (k10 n (.slice a 0 c)).toArray 27)
  refine ⟨⟨Cb.made w' _ _, ?_, ?_⟩, hf, fun k hk => ?_, (hW.trans (hb.mono hs)).trans (hba.mono (by omega))⟩
  · rw [hn]
    exact (row_stays hr (fun k e => hba.block k (hr.lt k e).2)).mono (Nat.zero_le _)
  · rw [hn]
    exact List.Pairwise.nil
  · rcases hk with rfl | hk
    · omega
    · have := (hr.lt k hk).1
      omega
theorem Mine10.write (S : Specs10) (h : Mine10 W w q n v) (z : Int) (d : ByteArray) (hd : d.size ≤ 20000) :
    Calls Try.prog 13 #[dptr q, .int .i64 z, .string d] w fun e w' => e = .returned (.tuple #[]) ∧ Mine10 W w' q (Kq.write n z d) v ∧ Moved w w' (Fn q v) (Fn q v) := by
  refine (S.write q n v z d w h.own.blk h.fine hd).mono ?_
  rintro e w' ⟨rfl, h1, h2⟩
  have hm : Moved w w' (Fn q v) (Fn q v) := ⟨h2.os, h2.tape, h2.output, h2.size, fun k hk hF => h2.block k hk (fun e => hF (Or.inl (Option.some.inj e))), fun _ hk => Or.inl hk⟩
  exact ⟨rfl, h.step ⟨h1, row_stays h.own.row (fun k e => h2.block k (h.own.row.lt k e).2 (fun e2 => h.own.vne (by rw [e, e2]))), h.own.rises⟩ (fine_write h.fine hd) hm, hm⟩
theorem Mine10.add (S : Specs10) (h : Mine10 W w q n v) (s : ByteArray) (hs : s.size ≤ 20000) (hm : n.names.length < 1000) (t : Bool) (n' : Kq.Kn) (ht : (!Kq.has n.names s) = t) (hn : Kq.add n s = n') :
    Calls Try.prog 11 #[dptr q, .string s] w fun e w' => ∃ v', e = .returned (.bool t) ∧ Mine10 W w' q n' v' ∧ Moved w w' (Fn q v) (Fn q v') := by
  refine (S.add q n v s w h.own h.fine hs).mono ?_
  rintro e w' ⟨v', rfl, h1, h2⟩
  have hf := fine_add h.fine hs hm
  rw [hn] at h1 hf
  rw [ht]
  exact ⟨v', rfl, h.step h1 hf h2, h2⟩
theorem Mine10.remove (S : Specs10) (h : Mine10 W w q n v) (s : ByteArray) (hs : s.size ≤ 20000) (t : Bool) (n' : Kq.Kn) (ht : Kq.has n.names s = t) (hn : Kq.remove n s = n') :
    Calls Try.prog 12 #[dptr q, .string s] w fun e w' => ∃ v', e = .returned (.bool t) ∧ Mine10 W w' q n' v' ∧ Moved w w' (Fn q v) (Fn q v') := by
  refine (S.remove q n v s w h.own h.fine hs).mono ?_
  rintro e w' ⟨v', rfl, h1, h2⟩
  have hf := fine_remove h.fine s
  rw [hn] at h1 hf
  rw [ht]
  exact ⟨v', rfl, h.step h1 hf h2, h2⟩
theorem Mine10.eph (S : Specs10) (h : Mine10 W w q n v) (t : Bool) (ht : decide (n.owner ≠ 0) = t) :
    Calls Try.prog 16 #[dptr q] w fun e w' => e = .returned (.bool t) ∧ Mine10 W w' q n v ∧ Below w.heap.size w w' := by
  refine (S.eph q n v w h.own.blk).mono ?_
  rintro e w' ⟨rfl, hb⟩
  rw [ht]
  exact ⟨rfl, h.later hb, hb⟩
end
end Go.Proofs.Ytlgpjgncimcijaa
