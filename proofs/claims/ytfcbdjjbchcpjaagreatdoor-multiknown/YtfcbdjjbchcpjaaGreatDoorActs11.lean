/- Acts on a tree, as they come in; what the statements' own heavy answers. -/
import Derived.Test.YtfcbdjjbchcpjaaGreatDoorLAwake11
namespace Go.Proofs.YtfcbdjjbchcpjaaGreatDoor
open Go.RowKit

/-- An act. -/
structure Ac11 where
  op : Int
  o : O
  sess : Int
  zxid : Int
  n : Kq.Kn
def a18 (x : Ac11) (v : Value) : List Value := [.int .i64 x.op, .int .i64 x.o.kind, .string x.o.path, .string x.o.data, .int .i64 x.o.ver, .int .i64 x.o.flags, .int .i64 x.sess, .int .i64 x.zxid, .int .i64 x.n.made, .int .i64 x.n.changed, .int .i64 x.n.ver, .int .i64 x.n.kids, .int .i64 x.n.owner, .int .i64 x.n.len, .int .i64 x.n.cnt, .string x.n.data, .int .i64 x.n.next, v]
def av18 (x : Ac11) (v : Value) : Value := .agg #[.int .i64 x.op, .int .i64 x.o.kind, .string x.o.path, .string x.o.data, .int .i64 x.o.ver, .int .i64 x.o.flags, .int .i64 x.sess, .int .i64 x.zxid, .int .i64 x.n.made, .int .i64 x.n.changed, .int .i64 x.n.ver, .int .i64 x.n.kids, .int .i64 x.n.owner, .int .i64 x.n.len, .int .i64 x.n.cnt, .string x.n.data, .int .i64 x.n.next, v]
/-- Acts in a row. -/
def Acl11 (W : World) (v : Value) (xs : List Ac11) : Prop := ∃ av k c, v = .slice av k c ∧ k = xs.length ∧ ∀ (j : Nat) x, xs[j]? = some x → ∃ g o nv, av = some ⟨g, o, none⟩ ∧ Ss W nv x.n.names ∧ ∀ (i : Nat) u, (a18 x nv)[i]? = some u → W.cell? ⟨g, o + j * 18 + i, none⟩ = some u
def Rg11 (z : Int) : Prop := -9223372036854775808 ≤ z ∧ z ≤ 9223372036854775807
/-- An act that an argument may hold. -/
structure AcOk11 (x : Ac11) : Prop where
  o : OFit x.o
  sess : Rg11 x.sess
  zxid : Rg11 x.zxid
  ver : Rg11 x.n.ver
  kids : Rg11 x.n.kids
  next : Rg11 x.n.next
  data : x.n.data.size ≤ maxLen
  many : x.n.names.length ≤ maxLen
  long : ∀ s ∈ x.n.names, s.size ≤ maxLen
/-- An act that is more than is asked of. -/
def Heavy11 (x : Ac11) : Prop := 300 < x.o.path.size ∨ 1100 < x.o.data.size ∨ 20 < x.n.names.length ∨ 1100 < x.n.data.size ∨ ∃ s ∈ x.n.names, 60 < s.size
theorem Cb18 {w : World} {q : Nat} {x : Ac11} {v : Value} {t : TypeId} (h : Cb w q (a18 x v) t) : w.cell? ⟨q, 2, none⟩ = some (.string x.o.path) ∧ w.cell? ⟨q, 3, none⟩ = some (.string x.o.data) ∧ w.cell? ⟨q, 15, none⟩ = some (.string x.n.data) ∧ w.cell? ⟨q, 17, none⟩ = some v := ⟨h.cell 2, h.cell 3, h.cell 15, h.cell 17⟩

set_option maxRecDepth 20000 in
set_option maxHeartbeats 4000000 in
theorem heavy_any11 (x : Ac11) (a : Option Addr) (N c : Nat) (w : World) (h : Ss w (.slice a N c) x.n.names) (hok : AcOk11 x) :
    Calls Tryz.prog 24 #[av18 x (.slice a N c)] w (BoolP (Heavy11 x) w) := by
  have HC : Hid ((∀ (j : Nat) s, x.n.names[j]? = some s → ∃ g o, a = some ⟨g, o, none⟩ ∧ w.cell? ⟨g, o + j, none⟩ = some (.string s)) ∧ N = x.n.names.length) := by
    obtain ⟨av, k, c', e, hk, hc⟩ := h
    simp only [Value.slice.injEq] at e
    obtain ⟨rfl, rfl, rfl⟩ := e
    exact ⟨hc, hk⟩
  have HSZ : Hid (∀ s ∈ x.n.names, s.size ≤ maxLen) := hok.long
  have hN1 : N ≤ 9223372036854775807 := by have h1 := HC.out.2; have h2 := hok.many; unfold maxLen at h2; omega
  have hd1 : x.n.data.size ≤ 9223372036854775807 := by have h2 := hok.data; unfold maxLen at h2; omega
  have hp1 : x.o.path.size ≤ 9223372036854775807 := by have h2 := hok.o.path; unfold maxLen at h2; omega
  have hq1 : x.o.data.size ≤ 9223372036854775807 := by have h2 := hok.o.data; unfold maxLen at h2; omega
  clear h hok
  obtain ⟨q, hq⟩ : ∃ z, z = w.heap.size := ⟨_, rfl⟩
  have H0 : Hid (Cb (w.alloc (.cells #[.int .i64 x.op, .int .i64 x.o.kind, .string x.o.path, .string x.o.data, .int .i64 x.o.ver, .int .i64 x.o.flags, .int .i64 x.sess, .int .i64 x.zxid, .int .i64 x.n.made, .int .i64 x.n.changed, .int .i64 x.n.ver, .int .i64 x.n.kids, .int .i64 x.n.owner, .int .i64 x.n.len, .int .i64 x.n.cnt, .string x.n.data, .int .i64 x.n.next, .slice a N c] 48)) q (a18 x (.slice a N c)) 48 ∧ Below w.heap.size w (w.alloc (.cells #[.int .i64 x.op, .int .i64 x.o.kind, .string x.o.path, .string x.o.data, .int .i64 x.o.ver, .int .i64 x.o.flags, .int .i64 x.sess, .int .i64 x.zxid, .int .i64 x.n.made, .int .i64 x.n.changed, .int .i64 x.n.ver, .int .i64 x.n.kids, .int .i64 x.n.owner, .int .i64 x.n.len, .int .i64 x.n.cnt, .string x.n.data, .int .i64 x.n.next, .slice a N c] 48))) := ⟨by rw [hq]; exact Cb.made w _ _, (Below.refl _ w).alloc (Nat.le_refl _) _⟩
  unfold av18
  go_enter Tryz.func24, Tryz.ntmps24
  by_cases h1 : 300 < x.o.path.size
  · have h1' : (300 : Int) < (x.o.path.size : Int) := by omega
    have HY : Hid (Heavy11 x) := Or.inl h1
    go_wp2
    go_ret
    exact ⟨true, rfl, ⟨fun _ => HY.out, fun _ => rfl⟩, H0.out.2⟩
  have h1' : ¬ (300 : Int) < (x.o.path.size : Int) := by omega
  by_cases h2 : 1100 < x.o.data.size
  · have h2' : (1100 : Int) < (x.o.data.size : Int) := by omega
    have HY : Hid (Heavy11 x) := Or.inr (Or.inl h2)
    go_wp2
    go_ret
    exact ⟨true, rfl, ⟨fun _ => HY.out, fun _ => rfl⟩, H0.out.2⟩
  have h2' : ¬ (1100 : Int) < (x.o.data.size : Int) := by omega
  by_cases h3 : 20 < N
  · have h3' : (20 : Int) < (N : Int) := by omega
    have HY : Hid (Heavy11 x) := Or.inr (Or.inr (Or.inl (by have := HC.out.2; omega)))
    go_wp2
    go_ret
    exact ⟨true, rfl, ⟨fun _ => HY.out, fun _ => rfl⟩, H0.out.2⟩
  have h3' : ¬ (20 : Int) < (N : Int) := by omega
  by_cases h4 : 1100 < x.n.data.size
  · have h4' : (1100 : Int) < (x.n.data.size : Int) := by omega
    have HY : Hid (Heavy11 x) := Or.inr (Or.inr (Or.inr (Or.inl h4)))
    go_wp2
    go_ret
    exact ⟨true, rfl, ⟨fun _ => HY.out, fun _ => rfl⟩, H0.out.2⟩
  have h4' : ¬ (1100 : Int) < (x.n.data.size : Int) := by omega
  have HNO : Hid (¬ 300 < x.o.path.size ∧ ¬ 1100 < x.o.data.size ∧ ¬ 20 < x.n.names.length ∧ ¬ 1100 < x.n.data.size) := ⟨h1, h2, by have := HC.out.2; omega, h4⟩
  go_upto_region 3 with fail
  rw [← hq]
  clear hq
  generalize w.alloc (.cells #[.int .i64 x.op, .int .i64 x.o.kind, .string x.o.path, .string x.o.data, .int .i64 x.o.ver, .int .i64 x.o.flags, .int .i64 x.sess, .int .i64 x.zxid, .int .i64 x.n.made, .int .i64 x.n.changed, .int .i64 x.n.ver, .int .i64 x.n.kids, .int .i64 x.n.owner, .int .i64 x.n.len, .int .i64 x.n.cnt, .string x.n.data, .int .i64 x.n.next, .slice a N c] 48) = w0 at *
  go_wp2
  go_loopw [3] (fun i wr => ∃ k : Nat, k ≤ N ∧ i = .int .i64 (k : Int) ∧ (∀ s ∈ x.n.names.take k, ¬ 60 < s.size) ∧ w0 = wr) (fun i _ => N - (intOf i).toNat)
  case atStart => exact ⟨0, Nat.zero_le _, rfl, fun s hs => by simp at hs, rfl⟩
  case round =>
    obtain ⟨k, hk, rfl, hsm, rfl⟩ := hrel
    have HSM : Hid (∀ s ∈ x.n.names.take k, ¬ 60 < s.size) := hsm
    clear hsm
    have c17 : w0.cell? ⟨q, 17, none⟩ = some (.slice a N c) := H0.out.1.cell 17
    by_cases hlt : k < N
    · have hlt' : (k : Int) < (N : Int) := by omega
      have hk0 : (0 : Int) ≤ (k : Int) := by omega
      have hwk : IntKind.wrap .i64 ((k : Int) + 1) = (k : Int) + 1 := by rw [IntKind.wrap_i64]; omega
      obtain ⟨s, hs⟩ : ∃ s, x.n.names[k]? = some s := ⟨_, List.getElem?_eq_getElem (by have := HC.out.2; omega)⟩
      have HX : Hid (x.n.names.take (k + 1) = x.n.names.take k ++ [s] ∧ s ∈ x.n.names) := ⟨by rw [List.take_add_one, hs]; rfl, List.mem_of_getElem? hs⟩
      obtain ⟨g, o, hav, lx⟩ := HC.out.1 k s hs
      subst hav
      have lx' : w0.cell? ⟨g, o + k, none⟩ = some (.string s) := Below.kept H0.out.2 lx
      have hsz : s.size ≤ 9223372036854775807 := by have := HSZ.out s HX.out.2; unfold maxLen at this; omega
      clear hs lx
      by_cases h60 : 60 < s.size
      · have h60' : (60 : Int) < (s.size : Int) := by omega
        have HY : Hid (Heavy11 x) := Or.inr (Or.inr (Or.inr (Or.inr ⟨s, HX.out.2, h60⟩)))
        go_wp2
        go_ret
        exact ⟨true, rfl, ⟨fun _ => HY.out, fun _ => rfl⟩, H0.out.2⟩
      have h60' : ¬ (60 : Int) < (s.size : Int) := by omega
      have HN : Hid (∀ y ∈ x.n.names.take (k + 1), ¬ 60 < y.size) := fun y hy => by
        rw [HX.out.1] at hy
        rcases List.mem_append.1 hy with hy | hy
        · exact HSM.out y hy
        · simp at hy
          rw [hy]
          exact h60
      go_wp2
      go_roundw
      case rel => exact ⟨k + 1, by omega, by go_num, HN.out, by first | rfl | trivial⟩
      case measure => simp [intOf]; omega
    · have hlt' : ¬ (k : Int) < (N : Int) := by omega
      have HE : Hid (¬ Heavy11 x) := by
        have e : ¬ Heavy11 x := by
          rintro (h | h | h | h | ⟨s, g1, g2⟩)
          · exact HNO.out.1 h
          · exact HNO.out.2.1 h
          · exact HNO.out.2.2.1 h
          · exact HNO.out.2.2.2 h
          · refine HSM.out s ?_ g2
            rw [List.take_of_length_le (by have := HC.out.2; omega)]
            exact g1
        exact e
      go_wp2
      go_ret
      exact ⟨false, rfl, ⟨fun h => (by cases h), fun h => absurd h HE.out⟩, H0.out.2⟩
end Go.Proofs.YtfcbdjjbchcpjaaGreatDoor
