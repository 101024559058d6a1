/- Ops and requests that were boxed; sizes of what may be: for the program and the reference alike. A node's cells one by one, its names wherever they lie, two nodes held against each other. What the landed node's oneMore, fill, New, Write and Ephemeral answer. What slices.Concat answers of texts. What slices.BinarySearch answers of names that rise. -/
import Derived.Test.YtboejbjobjhajaaGreatDoorPln
import Derived.Test.YtboejbjobjhajaaGreatDoorBas
import Derived.Deep.DeepCutAuto
import Derived.Laws.StructEq
import Derived.Laws.ResultCell
import Derived.Deep.Cut
import Derived.Test.YtboejbjobjhajaaGreatDoorShelf
namespace Go.Proofs.YtboejbjobjhajaaGreatDoor
open Go.RowKit

structure Box5 (w : World) (q : Nat) (o : O) : Prop where
  c0 : w.cell? ⟨q, 0, none⟩ = some (.int .i64 o.kind)
  c1 : w.cell? ⟨q, 1, none⟩ = some (.string o.path)
  c2 : w.cell? ⟨q, 2, none⟩ = some (.string o.data)
  c3 : w.cell? ⟨q, 3, none⟩ = some (.int .i64 o.ver)
  c4 : w.cell? ⟨q, 4, none⟩ = some (.int .i64 o.flags)

theorem Box5.below {w w' : World} {q : Nat} {o : O} (h : Box5 w q o) (hb : Below w.heap.size w w') : Box5 w' q o :=
  ⟨Below.kept hb h.c0, Below.kept hb h.c1, Below.kept hb h.c2, Below.kept hb h.c3, Below.kept hb h.c4⟩

theorem Box5.made (w : World) (o : O) (t : TypeId) : Box5 (w.alloc (.cells #[.int .i64 o.kind, .string o.path, .string o.data, .int .i64 o.ver, .int .i64 o.flags] t)) w.heap.size o :=
  ⟨cell?_alloc_at _ _ _ _ _ _ rfl, cell?_alloc_at _ _ _ _ _ _ rfl, cell?_alloc_at _ _ _ _ _ _ rfl, cell?_alloc_at _ _ _ _ _ _ rfl, cell?_alloc_at _ _ _ _ _ _ rfl⟩

theorem empty_size (d : ByteArray) : d.toList.isEmpty = decide (d.size = 0) := by
  rw [ByteArray.toList_eq]
  have h : d.size = d.data.toList.length := rfl
  rw [h]
  cases d.data.toList <;> simp

structure Box3 (w : World) (q : Nat) (s n : Int) (u : Value) : Prop where
  c0 : w.cell? ⟨q, 0, none⟩ = some (.int .i64 s)
  c1 : w.cell? ⟨q, 1, none⟩ = some (.int .i64 n)
  c2 : w.cell? ⟨q, 2, none⟩ = some u

theorem Box3.below {w w' : World} {q : Nat} {s n : Int} {u : Value} (h : Box3 w q s n u) (hb : Below w.heap.size w w') : Box3 w' q s n u :=
  ⟨Below.kept hb h.c0, Below.kept hb h.c1, Below.kept hb h.c2⟩

theorem Box3.made (w : World) (s n : Int) (u : Value) (t : TypeId) : Box3 (w.alloc (.cells #[.int .i64 s, .int .i64 n, u] t)) w.heap.size s n u :=
  ⟨cell?_alloc_at _ _ _ _ _ _ rfl, cell?_alloc_at _ _ _ _ _ _ rfl, cell?_alloc_at _ _ _ _ _ _ rfl⟩

theorem Box5.all {w : World} {q : Nat} {o : O} (h : Box5 w q o) : w.cell? ⟨q, 0, none⟩ = some (.int .i64 o.kind) ∧ w.cell? ⟨q, 1, none⟩ = some (.string o.path) ∧ w.cell? ⟨q, 2, none⟩ = some (.string o.data) ∧ w.cell? ⟨q, 3, none⟩ = some (.int .i64 o.ver) ∧ w.cell? ⟨q, 4, none⟩ = some (.int .i64 o.flags) := ⟨h.c0, h.c1, h.c2, h.c3, h.c4⟩

theorem good_sizes {o : O} (h : Oq.good o = 0) : o.path.size ≤ 200 ∧ o.data.size ≤ 1000 := by
  unfold Oq.good at h
  split at h
  · cases h
  · rename_i h1
    split at h
    · cases h
    · rename_i h2
      have h3 := (Oq.head_no (by simpa using h1)).2.2.1
      have h4 := (Pl.good_parts h3).2.2
      have h5 : o.path.data.toList.length = o.path.size := rfl
      exact ⟨by omega, by omega⟩

theorem firstBad_none {os : List O} (h : Oq.firstBad os = 0) : ∀ o ∈ os, Oq.good o = 0 := by
  induction os with
  | nil => intro o ho; cases ho
  | cons x os ih =>
    intro o ho
    unfold Oq.firstBad at h
    split at h
    · rename_i h1
      rcases List.mem_cons.1 ho with rfl | ho
      · exact h1
      · exact ih h o ho
    · rename_i h1
      exact absurd h h1

theorem may_sizes {s n : Int} {os : List O} (h : Oq.may s n os = 0) : 1 ≤ s ∧ 1 ≤ n ∧ 1 ≤ os.length ∧ os.length ≤ 16 ∧ ∀ o ∈ os, o.path.size ≤ 200 ∧ o.data.size ≤ 1000 := by
  unfold Oq.may at h
  split at h
  · cases h
  · split at h
    · cases h
    · split at h
      · rename_i h1 h2 h3
        exact absurd h h3
      · rename_i h1 h2 h3
        have h4 : Oq.firstBad os = 0 := Decidable.not_not.1 h3
        exact ⟨by omega, by omega, by omega, by omega, fun o ho => good_sizes (firstBad_none h4 o ho)⟩

end Go.Proofs.YtboejbjobjhajaaGreatDoor
namespace Go.Proofs.YtboejbjobjhajaaGreatDoor.Kq
theorem del_cut {l : List ByteArray} {s : ByteArray} (hr : Rises l) (h : s ∈ l) : del l s = l.take (low l s).length ++ l.drop ((low l s).length + 1) ∧ (low l s).length < l.length := by
  obtain ⟨r, h1, _, _⟩ := high_first hr h
  have h2 := del_eq hr h h1
  have h3 := low_high l s
  rw [h1] at h3
  generalize low l s = a at *
  subst h3
  rw [h2]
  refine ⟨?_, by simp⟩
  rw [List.take_left', List.drop_append]
  · simp
  · rfl
theorem low_at {l : List ByteArray} {s : ByteArray} {k : Nat} (h : k < (low l s).length) : ∃ x, l[k]? = some x ∧ lt x s = true := by
  refine ⟨(low l s)[k], ?_, low_lt (List.getElem_mem h)⟩
  conv => lhs; rw [← low_high l s]
  rw [List.getElem?_append_left h]
  exact List.getElem?_eq_getElem h
theorem low_len (l : List ByteArray) (s : ByteArray) : (low l s).length ≤ l.length := by
  have := congrArg List.length (low_high l s)
  rw [List.length_append] at this
  omega
theorem low_end {l : List ByteArray} {s x : ByteArray} (hr : Rises l) (h : l[(low l s).length]? = some x) : lt x s = false ∧ has l s = decide (x = s) := by
  have h1 : (high l s)[0]? = some x := by
    rw [← low_high l s] at h
    rw [List.getElem?_append_right (by simp [low_high]), low_high] at h
    simpa using h
  have hm : x ∈ high l s := List.mem_of_getElem? h1
  refine ⟨high_ge hr hm, ?_⟩
  rw [Bool.eq_iff_iff, has_iff, decide_eq_true_eq]
  constructor
  · intro hs
    obtain ⟨r, h2, _, _⟩ := high_first hr hs
    rw [h2] at h1
    exact (Option.some.inj h1).symm
  · rintro rfl
    rw [← low_high l x]
    exact List.mem_append.2 (Or.inr hm)
theorem low_all {l : List ByteArray} {s : ByteArray} (hr : Rises l) (h : (low l s).length = l.length) : has l s = false := by
  cases hh : has l s with
  | false => rfl
  | true =>
    obtain ⟨r, h2, _, _⟩ := high_first hr (has_iff.1 hh)
    have := congrArg List.length (low_high l s)
    rw [List.length_append, h2] at this
    simp at this
    omega
theorem low_take (l : List ByteArray) (s : ByteArray) : low l s = l.take (low l s).length ∧ high l s = l.drop (low l s).length := by
  have h := low_high l s
  refine ⟨?_, ?_⟩
  · conv => rhs; arg 2; rw [← h]
    rw [List.take_left' rfl]
  · conv => rhs; arg 2; rw [← h]
    rw [List.drop_left' rfl]
theorem ins_flat (l : List ByteArray) (s : ByteArray) : [l.take (low l s).length, [s], l.drop (low l s).length].flatten = ins l s := by
  rw [← (low_take l s).1, ← (low_take l s).2]
  simp [ins]
end Go.Proofs.YtboejbjobjhajaaGreatDoor.Kq
namespace Go.Proofs.YtboejbjobjhajaaGreatDoor
open Go.RowKit

def Nm (w : World) (v : Value) (ss : List ByteArray) : Prop := (v = .slice none 0 0 ∧ ss = []) ∨ ∃ g o c, v = .slice (some ⟨g, o, none⟩) ss.length c ∧ ss.length ≤ c ∧ ∀ (j : Nat) s, ss[j]? = some s → w.cell? ⟨g, o + j, none⟩ = some (.string s)
section
variable {w w' : World} {v : Value} {l : List ByteArray}
theorem Nm.of_row {B : Nat} (h : w.ownsRow B 9 1 v l.length (sc l)) : Nm w v l := by
  rcases h.2 with ⟨e, h0⟩ | ⟨g, cap, cur, e, hg, hblk, hcap, _, hsz, htk⟩
  · exact Or.inl ⟨e, List.length_eq_zero_iff.1 h0⟩
  · refine Or.inr ⟨g, 0, cap, e, hcap, fun j s hs => ?_⟩
    have hj := (List.getElem?_eq_some_iff.1 hs).1
    have hx : (sc l)[j]? = some (.string s) := by unfold sc; rw [List.getElem?_map, hs]; rfl
    rw [← htk, List.getElem?_take, if_pos (by omega), Array.getElem?_toList] at hx
    simp [World.cell?, hblk, hx]
end

theorem ten_cells {w : World} {q : Nat} {n : Kq.Kn} {v : Value} {t : TypeId} (h : Cb w q (k10 n v) t) : w.cell? ⟨q, 0, none⟩ = some (.int .i64 n.made) ∧ w.cell? ⟨q, 1, none⟩ = some (.int .i64 n.changed) ∧ w.cell? ⟨q, 2, none⟩ = some (.int .i64 n.ver) ∧ w.cell? ⟨q, 3, none⟩ = some (.int .i64 n.kids) ∧ w.cell? ⟨q, 4, none⟩ = some (.int .i64 n.owner) ∧ w.cell? ⟨q, 5, none⟩ = some (.int .i64 n.len) ∧ w.cell? ⟨q, 6, none⟩ = some (.int .i64 n.cnt) ∧ w.cell? ⟨q, 7, none⟩ = some (.string n.data) ∧ w.cell? ⟨q, 8, none⟩ = some (.int .i64 n.next) ∧ w.cell? ⟨q, 9, none⟩ = some v := by
  refine ⟨?_, ?_, ?_, ?_, ?_, ?_, ?_, ?_, ?_, ?_⟩ <;> (rw [h.cell]; rfl)
def put10 (w : World) (q : Nat) (n : Kq.Kn) (v : Value) : World := (((((((((w.setCell ⟨q, 0, none⟩ (.int .i64 n.made)).setCell ⟨q, 1, none⟩ (.int .i64 n.changed)).setCell ⟨q, 2, none⟩ (.int .i64 n.ver)).setCell ⟨q, 3, none⟩ (.int .i64 n.kids)).setCell ⟨q, 4, none⟩ (.int .i64 n.owner)).setCell ⟨q, 5, none⟩ (.int .i64 n.len)).setCell ⟨q, 6, none⟩ (.int .i64 n.cnt)).setCell ⟨q, 7, none⟩ (.string n.data)).setCell ⟨q, 8, none⟩ (.int .i64 n.next)).setCell ⟨q, 9, none⟩ v
theorem put10_cb {w : World} {q : Nat} {m n : Kq.Kn} {u v : Value} {t : TypeId} (h : Cb w q (k10 m u) t) : Cb (put10 w q n v) q (k10 n v) t := (((((((((h.set 0 _).set 1 _).set 2 _).set 3 _).set 4 _).set 5 _).set 6 _).set 7 _).set 8 _).set 9 _
theorem grown_set {w w1 : World} {q i : Nat} (h : w.grownBy w1 (some q)) (u : Value) : w.grownBy (w1.setCell ⟨q, i, none⟩ u) (some q) := by
  have g := grownBy_setCell w1 ⟨q, i, none⟩ u
  exact ⟨g.os.trans h.os, g.tape.trans h.tape, g.output.trans h.output, Nat.le_trans h.size g.size, fun k hk hq => (RowKit.Below.heap_setCell _ _ _ _ (fun e => hq (by rw [e]))).trans (h.block k hk hq)⟩
theorem put10_grown (w : World) (q : Nat) (n : Kq.Kn) (v : Value) : w.grownBy (put10 w q n v) (some q) :=
  grown_set (grown_set (grown_set (grown_set (grown_set (grown_set (grown_set (grown_set (grown_set (grown_set ⟨rfl, rfl, rfl, Nat.le_refl _, fun _ _ _ => rfl⟩ _) _) _) _) _) _) _) _) _) _

theorem results_one10 {fn : Func} {p : Tmp} {ty : TypeId} (h : fn.results = #[.cell p ty]) (tmps : Array Value) (P : Program) (w : World) :
    (results fn tmps).run P w = ((asAddr (tmps.getD p undef)).run P w).andThen fun a w₁ => (loadVar ty a).run P w₁ := by
  simp only [results, h]
  simp [Sem.run_bind, Result.andThen]

end Go.Proofs.YtboejbjobjhajaaGreatDoor
namespace Go.Proofs.YtboejbjobjhajaaGreatDoor
open Go.RowKit

set_option maxRecDepth 20000 in
set_option maxHeartbeats 1000000 in
theorem sclone_any10 (s : ByteArray) (w : World) (hs : s.size ≤ 281474976710656) :
    Calls Tryz.prog 97 #[.string s] w fun e w' => e = .returned (.string s) ∧ Below w.heap.size w w' := by
  go_enter Tryz.func97, Tryz.ntmps97
  go_wp2_with fail
  refine (Tryz.stringslite_Clone s w hs).mono ?_
  rintro e w' ⟨rfl, hb⟩
  have HB : Hid (Below w.heap.size w w') := hb
  clear hb
  go_wp2
  go_ret
  exact ⟨rfl, HB.out⟩

set_option maxRecDepth 20000 in
set_option maxHeartbeats 1000000 in
theorem oneMore_any10 (z : Int) (w : World) (hz : -9223372036854775808 ≤ z ∧ z ≤ 9223372036854775807) :
    Calls Tryz.prog 161 #[.int .i64 z] w fun e w' => e = .returned (.int .i64 (Kq.more z)) ∧ w' = w := by
  unfold Kq.more
  by_cases h : 2147483647 ≤ z
  · rw [if_pos h]
    go_enter Tryz.func161, Tryz.ntmps161
    go_wp2
    go_ret
    exact ⟨rfl, rfl⟩
  · rw [if_neg h]
    have hw : IntKind.wrap .i64 (z + 1) = z + 1 := by rw [IntKind.wrap_i64]; omega
    go_enter Tryz.func161, Tryz.ntmps161
    go_wp2
    go_ret
    exact ⟨rfl, rfl⟩

def Kq.fill (n : Kq.Kn) (z : Int) (d : ByteArray) : Kq.Kn := { n with data := d, changed := z, len := (d.size : Int) }

set_option maxRecDepth 20000 in
set_option maxHeartbeats 4000000 in
theorem fill_any10 (q : Nat) (n : Kq.Kn) (v : Value) (z : Int) (d : ByteArray) (w : World) (h : Cb w q (k10 n v) 146) (hd : d.size ≤ 20000) :
    Calls Tryz.prog 160 #[dptr q, .int .i64 z, .string d] w fun e w' => e = .returned (.tuple #[]) ∧ Cb w' q (k10 (Kq.fill n z d) v) 146 ∧ w.grownBy w' (some q) := by
  have HC : Hid (∀ w, Calls Tryz.prog 97 #[.string d] w fun e w' => e = .returned (.string d) ∧ Below w.heap.size w w') := fun w => sclone_any10 d w (by omega)
  have HN : Hid (Cb w q (k10 n v) 146) := h
  clear h
  unfold dptr
  go_enter Tryz.func160, Tryz.ntmps160
  go_wp2_with fail
  refine (HC.out _).mono ?_
  rintro e w1 ⟨rfl, hb⟩
  have HB : Hid (Below w.heap.size w w1) := hb
  have HN1 : Hid (Cb w1 q (k10 n v) 146) := HN.out.below hb
  clear hb
  have c7 : w1.cell? ⟨q, 7, none⟩ = some (.string n.data) := HN1.out.cell 7
  have c1 : w1.cell? ⟨q, 1, none⟩ = some (.int .i64 n.changed) := HN1.out.cell 1
  have c5 : w1.cell? ⟨q, 5, none⟩ = some (.int .i64 n.len) := HN1.out.cell 5
  have f7 := HN1.out.free 7
  have f1 := HN1.out.free 1
  have f5 := HN1.out.free 5
  go_wp2
  go_end0
  refine ⟨rfl, ((HN1.out.set 7 _).set 1 _).set 5 _, grown_set (grown_set (grown_set (grownBy_below HB.out) _) _) _⟩

set_option maxRecDepth 20000 in
set_option maxHeartbeats 4000000 in
theorem new_any10 (z o : Int) (d : ByteArray) (w : World) (hd : d.size ≤ 20000) :
    Calls Tryz.prog 127 #[.int .i64 z, .int .i64 o, .string d] w fun e w' => ∃ a c, e = .returned (kv (Kq.new z o d) (.slice a 0 c)) ∧ w'.ownsRow w.heap.size 9 1 (.slice a 0 c) 0 [] ∧ Below w.heap.size w w' := by
  have HF : Hid (∀ (q : Nat) (n : Kq.Kn) (v : Value) (w : World), Cb w q (k10 n v) 146 → Calls Tryz.prog 160 #[.pointer (some ⟨q, 0, none⟩), .int .i64 z, .string d] w fun e w' => e = .returned (.tuple #[]) ∧ Cb w' q (k10 (Kq.fill n z d) v) 146 ∧ w.grownBy w' (some q)) := fun q n v w h => fill_any10 q n v z d w h hd
  obtain ⟨q0, hq0⟩ : ∃ x, x = w.heap.size := ⟨_, rfl⟩
  obtain ⟨q1, hq1⟩ : ∃ x, x = w.heap.size + 1 := ⟨_, rfl⟩
  have H0 : Hid (Cb ((w.alloc (.cells #[.int .i64 0, .int .i64 0, .int .i64 0, .int .i64 0, .int .i64 0, .int .i64 0, .int .i64 0, .string ⟨#[]⟩, .int .i64 0, .slice none 0 0] 146)).alloc (.cells #[.int .i64 z, .int .i64 0, .int .i64 0, .int .i64 0, .int .i64 o, .int .i64 0, .int .i64 0, .string ⟨#[]⟩, .int .i64 0, .slice none 0 0] 146)) q0 (k10 Kq.zero (.slice none 0 0)) 146 ∧ Cb ((w.alloc (.cells #[.int .i64 0, .int .i64 0, .int .i64 0, .int .i64 0, .int .i64 0, .int .i64 0, .int .i64 0, .string ⟨#[]⟩, .int .i64 0, .slice none 0 0] 146)).alloc (.cells #[.int .i64 z, .int .i64 0, .int .i64 0, .int .i64 0, .int .i64 o, .int .i64 0, .int .i64 0, .string ⟨#[]⟩, .int .i64 0, .slice none 0 0] 146)) q1 (k10 (⟨z, 0, 0, 0, o, 0, 0, ⟨#[]⟩, 0, []⟩ : Kq.Kn) (.slice none 0 0)) 146 ∧ Below w.heap.size w ((w.alloc (.cells #[.int .i64 0, .int .i64 0, .int .i64 0, .int .i64 0, .int .i64 0, .int .i64 0, .int .i64 0, .string ⟨#[]⟩, .int .i64 0, .slice none 0 0] 146)).alloc (.cells #[.int .i64 z, .int .i64 0, .int .i64 0, .int .i64 0, .int .i64 o, .int .i64 0, .int .i64 0, .string ⟨#[]⟩, .int .i64 0, .slice none 0 0] 146))) := by
    have hb1 := (Below.refl _ w).alloc (Nat.le_refl _) (.cells #[.int .i64 0, .int .i64 0, .int .i64 0, .int .i64 0, .int .i64 0, .int .i64 0, .int .i64 0, .string ⟨#[]⟩, .int .i64 0, .slice none 0 0] 146)
    have h1 := Cb.made w [.int .i64 0, .int .i64 0, .int .i64 0, .int .i64 0, .int .i64 0, .int .i64 0, .int .i64 0, .string ⟨#[]⟩, .int .i64 0, .slice none 0 0] 146
    have h2 := Cb.made (w.alloc (.cells #[.int .i64 0, .int .i64 0, .int .i64 0, .int .i64 0, .int .i64 0, .int .i64 0, .int .i64 0, .string ⟨#[]⟩, .int .i64 0, .slice none 0 0] 146)) [.int .i64 z, .int .i64 0, .int .i64 0, .int .i64 0, .int .i64 o, .int .i64 0, .int .i64 0, .string ⟨#[]⟩, .int .i64 0, .slice none 0 0] 146
    rw [World.size_alloc, ← hq1] at h2
    refine ⟨?_, h2, hb1.alloc hb1.size _⟩
    rw [hq0]
    exact h1.below ((Below.refl _ _).alloc (Nat.le_refl _) _)
  have HQ : Hid (q0 = w.heap.size ∧ q1 = w.heap.size + 1) := ⟨hq0, hq1⟩
  go_enter Tryz.func127, Tryz.ntmps127
  go_wp2_with fail
  rw [← hq1, ← hq0]
  clear hq1 hq0
  generalize (w.alloc (.cells #[.int .i64 0, .int .i64 0, .int .i64 0, .int .i64 0, .int .i64 0, .int .i64 0, .int .i64 0, .string ⟨#[]⟩, .int .i64 0, .slice none 0 0] 146)).alloc (.cells #[.int .i64 z, .int .i64 0, .int .i64 0, .int .i64 0, .int .i64 o, .int .i64 0, .int .i64 0, .string ⟨#[]⟩, .int .i64 0, .slice none 0 0] 146) = w0 at *
  refine (HF.out q1 _ _ _ H0.out.2.1).mono ?_
  rintro e w1 ⟨rfl, hc, hg⟩
  have H1 : Hid (Cb w1 q1 (k10 (⟨z, z, 0, 0, o, (d.size : Int), 0, d, 0, []⟩ : Kq.Kn) (.slice none 0 0)) 146 ∧ Cb w1 q0 (k10 Kq.zero (.slice none 0 0)) 146 ∧ Below w.heap.size w w1) := ⟨hc, H0.out.1.keep (hg.block _ H0.out.1.lt (fun e => by have := HQ.out; simp at e; omega)), H0.out.2.2.grown hg H0.out.2.2.size (fun k hk => by have := HQ.out; simp at hk; omega)⟩
  clear hc hg
  obtain ⟨c0, c1, c2, c3, c4, c5, c6, c7, c8, c9⟩ := ten_cells H1.out.1
  obtain ⟨z0, z1, z2, z3, z4, z5, z6, z7, z8, z9⟩ := ten_cells H1.out.2.1
  simp only [] at c0 c1 c2 c3 c4 c5 c6 c7 c8 c9
  have f0 := H1.out.2.1.free 0
  have f1 := H1.out.2.1.free 1
  have f2 := H1.out.2.1.free 2
  have f3 := H1.out.2.1.free 3
  have f4 := H1.out.2.1.free 4
  have f5 := H1.out.2.1.free 5
  have f6 := H1.out.2.1.free 6
  have f7 := H1.out.2.1.free 7
  have f8 := H1.out.2.1.free 8
  have f9 := H1.out.2.1.free 9
  go_wp2
  clear c0 c1 c2 c3 c4 c5 c6 c7 c8 c9 z0 z1 z2 z3 z4 z5 z6 z7 z8 z9 f0 f1 f2 f3 f4 f5 f6 f7 f8 f9
  have HX : Hid (Cb (put10 w1 q0 (Kq.new z o d) (.slice none 0 0)) q0 (k10 (Kq.new z o d) (.slice none 0 0)) 146 ∧ Below w.heap.size w (put10 w1 q0 (Kq.new z o d) (.slice none 0 0))) := ⟨put10_cb H1.out.2.1, H1.out.2.2.grown (put10_grown _ _ _ _) H1.out.2.2.size (fun k hk => by have := HQ.out; simp at hk; omega)⟩
  unfold put10 Kq.new at HX
  simp only [] at HX
  generalize ((((((((((w1).setCell ⟨q0, 0, none⟩ (.int .i64 z)).setCell ⟨q0, 1, none⟩ (.int .i64 z)).setCell ⟨q0, 2, none⟩ (.int .i64 0)).setCell ⟨q0, 3, none⟩ (.int .i64 0)).setCell ⟨q0, 4, none⟩ (.int .i64 o)).setCell ⟨q0, 5, none⟩ (.int .i64 (d.size : Int))).setCell ⟨q0, 6, none⟩ (.int .i64 0)).setCell ⟨q0, 7, none⟩ (.string d)).setCell ⟨q0, 8, none⟩ (.int .i64 0)).setCell ⟨q0, 9, none⟩ (.slice none 0 0) = wy at *
  refine bodyPost_ret (v := .agg #[.int .i64 z, .int .i64 z, .int .i64 0, .int .i64 0, .int .i64 o, .int .i64 (d.size : Int), .int .i64 0, .string d, .int .i64 0, .slice none 0 0]) ?_ rfl ⟨none, 0, rfl, World.ownsRow_nil _ _ _ _, HX.out.2⟩
  obtain ⟨c0, c1, c2, c3, c4, c5, c6, c7, c8, c9⟩ := ten_cells HX.out.1
  simp only [] at c0 c1 c2 c3 c4 c5 c6 c7 c8 c9
  rw [results_one10 rfl]
  go_simp
end Go.Proofs.YtboejbjobjhajaaGreatDoor
namespace Go.Proofs.YtboejbjobjhajaaGreatDoor
open Go.RowKit

theorem Src.form {w : World} {u : Value} {ms : List ByteArray} (h : Src w u ms) : ∃ a c, u = .slice a ms.length c := by
  rcases h with ⟨rfl, rfl⟩ | ⟨g, o, c, rfl, _⟩
  · exact ⟨none, 0, rfl⟩
  · exact ⟨_, _, rfl⟩

def Pcs (w : World) (p : Value) (ps : List (List ByteArray)) : Prop := ∃ g o c, p = .slice (some ⟨g, o, none⟩) ps.length c ∧ ∀ (j : Nat) l, ps[j]? = some l → ∃ u, w.cell? ⟨g, o + j, none⟩ = some u ∧ Src w u l
theorem flat_take_le (ps : List (List ByteArray)) (k : Nat) : (ps.take k).flatten.length ≤ ps.flatten.length := by
  conv => rhs; rw [← List.take_append_drop k ps]
  rw [List.flatten_append, List.length_append]
  omega
theorem flat_take_succ {ps : List (List ByteArray)} {k : Nat} {l : List ByteArray} (h : ps[k]? = some l) : (ps.take (k + 1)).flatten = (ps.take k).flatten ++ l := by
  rw [List.take_add_one, h]
  simp

set_option maxRecDepth 20000 in
set_option maxHeartbeats 1000000 in
theorem grow_any10 (n : Nat) (w : World) (hn : n ≤ 3000) :
    Calls Tryz.prog 253 #[.slice none 0 0, .int .i64 (n : Int)] w fun e w' => ∃ a c, e = .returned (.slice a 0 c) ∧ w'.ownsRow w.heap.size 9 1 (.slice a 0 c) ([] : List ByteArray).length (sc []) ∧ Below w.heap.size w w' := by
  rcases Nat.eq_zero_or_pos n with rfl | h0
  · refine (Any8.slices_Grow_room Tryz.grow none 0 0 0 w (Nat.le_refl _) (by omega) (by omega) (Nat.le_refl _)).mono ?_
    rintro e w' ⟨rfl, rfl⟩
    exact ⟨_, _, rfl, World.ownsRow_nil _ _ _ _, Below.refl _ _⟩
  · obtain ⟨i0, hi, hz0, hz1, hz2⟩ := info_parts infoText
    refine (Any8.slices_Grow_grow Tryz.grow i0 (.string ⟨#[]⟩) hi hz0 (by rw [hz1]; decide) none 0 0 n [] w (Nat.le_refl _) (by omega) (by rw [hz2]; omega) (by omega) (by simp) (fun _ => rfl) (fun a h => by cases h)).mono ?_
    rintro e w' ⟨rfl, rfl⟩
    refine ⟨_, _, rfl, ?_, ?_⟩
    · have hge := grownCap_ge w (0 + n) 0 (Tryz.grow_ren.t 25)
      exact World.ownsRow_made w.drew _ _ (Nat.le_refl _) (grownCap_le_maxLen w (0 + n) 0 _ (by unfold maxLen; omega)) (by
        simp only [Array.size_append, size_zeroCells, Value.cells]
        rw [Nat.zero_add] at *
        simp
        omega)
    · exact ((Below.refl _ w).drew).alloc (Nat.le_refl _) _

set_option maxRecDepth 20000 in
set_option maxHeartbeats 4000000 in
theorem concat_any10 (p : Value) (ps : List (List ByteArray)) (w : World) (h : Pcs w p ps) (hp : ps.length ≤ 1000) (hN : ps.flatten.length ≤ 3000) :
    Calls Tryz.prog 242 #[p] w fun e w' => ∃ a c, e = .returned (.slice a ps.flatten.length c) ∧ w'.ownsRow w.heap.size 9 1 (.slice a ps.flatten.length c) ps.flatten.length (sc ps.flatten) ∧ Below w.heap.size w w' := by
  have HP : Hid (Pcs w p ps) := h
  obtain ⟨g, o, c, rfl, hc⟩ := h
  have HC : Hid (∀ (j : Nat) l, ps[j]? = some l → ∃ a c u, w.cell? ⟨g, o + j, none⟩ = some u ∧ u = .slice a l.length c ∧ Src w u l) := fun j l hl => by
    obtain ⟨u, h1, h2⟩ := hc j l hl
    obtain ⟨a, c, e⟩ := h2.form
    exact ⟨a, c, u, h1, e, h2⟩
  clear hc
  obtain ⟨n, hn⟩ : ∃ n, n = ps.length := ⟨_, rfl⟩
  rw [← hn] at hp
  rw [← hn]
  have HNN : Hid (n = ps.length) := hn
  have HNF : Hid (ps.flatten.length ≤ 3000) := hN
  clear hn hN
  have HGR : Hid (∀ (n : Nat) (w : World), n ≤ 3000 → Calls Tryz.prog 253 #[.slice none 0 0, .int .i64 (n : Int)] w fun e w' => ∃ a c, e = .returned (.slice a 0 c) ∧ w'.ownsRow w.heap.size 9 1 (.slice a 0 c) ([] : List ByteArray).length (sc []) ∧ Below w.heap.size w w') := grow_any10
  go_enter Tryz.func242, Tryz.ntmps242
  go_wp2
  go_loopw [3, 11] (fun s i wr => ∃ k m : Nat, k ≤ n ∧ i = .int .i64 (k : Int) ∧ s = .int .i64 (m : Int) ∧ m = (ps.take k).flatten.length ∧ w = wr) (fun s i _ => n - (intOf i).toNat)
  case atStart => exact ⟨0, 0, Nat.zero_le _, rfl, rfl, by simp, rfl⟩
  case round =>
    obtain ⟨k, m, hk, rfl, rfl, hm, rfl⟩ := hrel
    have HM : Hid (m = (ps.take k).flatten.length) := hm
    clear hm
    by_cases hlt : k < n
    · obtain ⟨l, hl⟩ : ∃ l, ps[k]? = some l := ⟨ps[k]'(by rw [← HNN.out]; exact hlt), List.getElem?_eq_getElem _⟩
      obtain ⟨a, c', u, h1, rfl, h3⟩ := HC.out k l hl
      obtain ⟨r, hr⟩ : ∃ r, r = l.length := ⟨_, rfl⟩
      rw [← hr] at h1
      have hS : m + r = (ps.take (k + 1)).flatten.length := by rw [flat_take_succ hl, List.length_append, hr, HM.out]
      have HS : Hid (m + r = (ps.take (k + 1)).flatten.length) := hS
      clear hS
      have hmr : m + r ≤ 3000 := by rw [HS.out]; exact Nat.le_trans (flat_take_le _ _) HNF.out
      clear hr h3 hl
      have hlt' : (k : Int) < n := by omega
      have hw : IntKind.wrap .i64 ((m : Int) + (r : Int)) = (m : Int) + (r : Int) := by rw [IntKind.wrap_i64]; omega
      have hneg : ¬ ((m : Int) + (r : Int) < 0) := by omega
      go_wp2
      go_roundw
      case rel => exact ⟨k + 1, m + r, by omega, by go_num, by go_num, HS.out, by simp⟩
      case measure => simp [intOf]; omega
    · obtain rfl : k = n := by omega
      have hM2 : m = ps.flatten.length := by rw [HM.out, HNN.out, List.take_length]
      have HM2 : Hid (m = ps.flatten.length) := hM2
      clear hM2
      go_wp2_with fail
      refine (HGR.out m _ (by rw [HM2.out]; exact HNF.out)).mono ?_
      rintro e w1 ⟨a1, c1, rfl, ho, hb⟩
      have HO : Hid (w1.ownsRow w.heap.size 9 1 (.slice a1 0 c1) ([] : List ByteArray).length (sc []) ∧ Below w.heap.size w w1) := ⟨ho, hb⟩
      clear ho hb hlt
      go_wp2
      go_loopw [6, 27] (fun s i wr => ∃ (j N : Nat) (a : Option Addr) (c : Nat), j ≤ k ∧ i = .int .i64 (j : Int) ∧ s = .slice a N c ∧ N = (ps.take j).flatten.length ∧ wr.ownsRow w.heap.size 9 1 (.slice a N c) (ps.take j).flatten.length (sc (ps.take j).flatten) ∧ Below w.heap.size w wr) (fun s i _ => k - (intOf i).toNat)
      case atStart => exact ⟨0, 0, _, _, Nat.zero_le _, rfl, rfl, by simp, by simpa using HO.out.1, HO.out.2⟩
      case round =>
        obtain ⟨j, N, a, c, hj, rfl, rfl, hN, ho, hb⟩ := hrel
        obtain ⟨L, hL⟩ : ∃ L, L = (ps.take j).flatten := ⟨_, rfl⟩
        rw [← hL] at ho hN
        have HL : Hid (L = (ps.take j).flatten) := hL
        have HNL : Hid (N = L.length) := hN
        have HO2 : Hid (wr.ownsRow w.heap.size 9 1 (.slice a N c) L.length (sc L) ∧ Below w.heap.size w wr) := ⟨ho, hb⟩
        clear ho hb hL hN
        by_cases hlt : j < k
        · obtain ⟨l, hl⟩ : ∃ l, ps[j]? = some l := ⟨ps[j]'(by rw [← HNN.out]; exact hlt), List.getElem?_eq_getElem _⟩
          obtain ⟨a2, c2, u, h1, rfl, h3⟩ := HC.out j l hl
          obtain ⟨r, hr⟩ : ∃ r, r = l.length := ⟨_, rfl⟩
          rw [← hr] at h1 h3
          have HS : Hid (L ++ l = (ps.take (j + 1)).flatten ∧ Src w (.slice a2 r c2) l) := ⟨by rw [flat_take_succ hl, HL.out], h3⟩
          clear h3 hl hr
          have hlt' : (j : Int) < k := by omega
          have d1 : wr.cell? ⟨g, o + j, none⟩ = some (.slice a2 r c2) := Below.kept HO2.out.2 h1
          clear h1
          go_wp2_with (at_builtin; refine append_strs rfl _ _ rfl w.heap.size (.slice a N c) (.slice a2 r c2) L l wr rfl rfl HO2.out.1 HO2.out.2.size (HS.out.2.below HO2.out.2) (by rw [← List.length_append, HS.out.1]; exact Nat.le_trans (flat_take_le _ _) HNF.out) ?_)
          intro v' w2 ho hb
          have hl3 : (L ++ l).length = (ps.take (j + 1)).flatten.length := by rw [HS.out.1]
          obtain ⟨N3, hN3⟩ : ∃ N3, N3 = (ps.take (j + 1)).flatten.length := ⟨_, rfl⟩
          have ho3 : w2.ownsRow w.heap.size 9 1 v' N3 (sc (ps.take (j + 1)).flatten) := by
            rw [hN3, ← hl3, ← HS.out.1, List.length_append]
            exact ho
          obtain ⟨a3, c3, e3, _⟩ := row_form ho3
          subst e3
          have HO3 : Hid (N3 = (ps.take (j + 1)).flatten.length ∧ w2.ownsRow w.heap.size 9 1 (.slice a3 N3 c3) N3 (sc (ps.take (j + 1)).flatten) ∧ Below w.heap.size w w2) := ⟨hN3, ho3, HO2.out.2.trans hb⟩
          clear ho hb ho3 hN3 hl3
          go_wp2
          go_roundw
          case rel => exact ⟨j + 1, N3, a3, c3, by omega, by go_num, rfl, HO3.out.1, by rw [← HO3.out.1]; exact HO3.out.2.1, HO3.out.2.2⟩
          case measure => simp [intOf]; omega
        · obtain rfl : j = k := by omega
          have hF : L = ps.flatten := by rw [HL.out, HNN.out, List.take_length]
          have HF : Hid (L = ps.flatten) := hF
          clear hF
          go_wp2
          go_ret
          have hNF : N = ps.flatten.length := by rw [HNL.out, HF.out]
          have ho := HO2.out.1
          rw [HF.out] at ho
          subst hNF
          exact ⟨a, c, rfl, ho, HO2.out.2⟩
end Go.Proofs.YtboejbjobjhajaaGreatDoor
namespace Go.Proofs.YtboejbjobjhajaaGreatDoor
open Go.RowKit

theorem search_any10 (v : Value) (l : List ByteArray) (s : ByteArray) (w : World) (h : Nm w v l) (hr : Kq.Rises l) (hl : l.length ≤ 1000) :
    Calls Tryz.prog 215 #[v, .string s] w fun e w' => e = .returned (.tuple #[.int .i64 ((Kq.low l s).length : Int), .bool (Kq.has l s)]) ∧ ∃ q, w' = w.drewN q := by
  rcases h with ⟨rfl, rfl⟩ | ⟨g, o, c, rfl, hcap, hc⟩
  · refine (Any2.slices_BinarySearch_string_empty Tryz.search_n none 0 s w).mono ?_
    rintro e w' ⟨rfl, rfl⟩
    exact ⟨rfl, 0, rfl⟩
  · have hat : ∀ j, j < l.length → l[j]? = some (l.getD j s) := fun j hj => by
      rw [List.getD_eq_getElem?_getD, List.getElem?_eq_getElem hj]
      rfl
    have key := Any2.slices_BinarySearch_string Tryz.search_n g o l.length c (fun j => l.getD j s) s w (by omega) (fun j hj => hc j _ (hat j hj))
    have hb : Lib.bsGo (fun t => Op.bytesLess (l.getD t s).toList s.toList) l.length 0 l.length = (Kq.low l s).length := by
      refine Lib.bsGo_spec _ _ (fun t ht => ?_) (fun t ht => ?_) _ _ _ (by omega) (Nat.zero_le _) (Kq.low_len l s)
      · obtain ⟨x, h1, h2⟩ := Kq.low_at ht
        show Kq.lt (l.getD t s) s = true
        rw [List.getD_eq_getElem?_getD, h1]
        exact h2
      · show Kq.lt (l.getD t s) s = false
        rw [List.getD_eq_getElem?_getD]
        cases he : l[t]? with
        | none => exact Kq.lt_irrefl s
        | some x =>
          refine Kq.high_ge hr (?_ : x ∈ Kq.high l s)
          rw [(Kq.low_take l s).2]
          refine List.mem_of_getElem? (i := t - (Kq.low l s).length) ?_
          rw [List.getElem?_drop, Nat.add_sub_cancel' ht, he]
    refine key.mono ?_
    rintro e w' ⟨rfl, q, rfl⟩
    refine ⟨?_, q, rfl⟩
    simp only [hb]
    congr 4
    rcases Nat.lt_or_ge (Kq.low l s).length l.length with hlt | hge
    · have h2 := (Kq.low_end hr (hat _ hlt)).2
      rw [h2]
      simp [hlt]
    · have h1 := Kq.low_len l s
      rw [Kq.low_all hr (by omega)]
      simp
      omega
end Go.Proofs.YtboejbjobjhajaaGreatDoor
