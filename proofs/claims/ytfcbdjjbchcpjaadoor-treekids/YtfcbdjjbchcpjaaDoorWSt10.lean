/- What the landed node's oneMore, fill, New, Write and Ephemeral answer. -/
import Derived.Test.YtfcbdjjbchcpjaaDoorNm10
import Derived.Test.YtfcbdjjbchcpjaaDoorShelf
namespace Go.Proofs.YtfcbdjjbchcpjaaDoor
open Go.RowKit

set_option maxRecDepth 20000 in
set_option maxHeartbeats 1000000 in
/-- strings.Clone. -/
theorem sclone_any10 (s : ByteArray) (w : World) (hs : s.size ≤ 281474976710656) :
    Calls Tryd.prog 38 #[.string s] w fun e w' => e = .returned (.string s) ∧ Below w.heap.size w w' := by
  go_enter Tryd.func38, Tryd.ntmps38
  go_wp2_with fail
  refine (Tryd.stringslite_Clone s w hs).mono ?_
  rintro e w' ⟨rfl, hb⟩
  have HB : Hid (Below w.heap.size w w') := hb
  clear hb
  go_wp2
  go_ret
  exact ⟨rfl, HB.out⟩

set_option maxRecDepth 20000 in
set_option maxHeartbeats 1000000 in
theorem oneMore_any10 (z : Int) (w : World) (hz : -9223372036854775808 ≤ z ∧ z ≤ 9223372036854775807) :
    Calls Tryd.prog 43 #[.int .i64 z] w fun e w' => e = .returned (.int .i64 (Kq.more z)) ∧ w' = w := by
  unfold Kq.more
  by_cases h : 2147483647 ≤ z
  · rw [if_pos h]
    go_enter Tryd.func43, Tryd.ntmps43
    go_wp2
    go_ret
    exact ⟨rfl, rfl⟩
  · rw [if_neg h]
    have hw : IntKind.wrap .i64 (z + 1) = z + 1 := by rw [IntKind.wrap_i64]; omega
    go_enter Tryd.func43, Tryd.ntmps43
    go_wp2
    go_ret
    exact ⟨rfl, rfl⟩

/-- What fill makes of a node. -/
def Kq.fill (n : Kq.Kn) (z : Int) (d : ByteArray) : Kq.Kn := { n with data := d, changed := z, len := (d.size : Int) }

set_option maxRecDepth 20000 in
set_option maxHeartbeats 4000000 in
theorem fill_any10 (q : Nat) (n : Kq.Kn) (v : Value) (z : Int) (d : ByteArray) (w : World) (h : Cb w q (k10 n v) 39) (hd : d.size ≤ 20000) :
    Calls Tryd.prog 39 #[dptr q, .int .i64 z, .string d] w fun e w' => e = .returned (.tuple #[]) ∧ Cb w' q (k10 (Kq.fill n z d) v) 39 ∧ w.grownBy w' (some q) := by
  have HC : Hid (∀ w, Calls Tryd.prog 38 #[.string d] w fun e w' => e = .returned (.string d) ∧ Below w.heap.size w w') := fun w => sclone_any10 d w (by omega)
  have HN : Hid (Cb w q (k10 n v) 39) := h
  clear h
  unfold dptr
  go_enter Tryd.func39, Tryd.ntmps39
  go_wp2_with fail
  refine (HC.out _).mono ?_
  rintro e w1 ⟨rfl, hb⟩
  have HB : Hid (Below w.heap.size w w1) := hb
  have HN1 : Hid (Cb w1 q (k10 n v) 39) := HN.out.below hb
  clear hb
  have c7 : w1.cell? ⟨q, 7, none⟩ = some (.string n.data) := HN1.out.cell 7
  have c1 : w1.cell? ⟨q, 1, none⟩ = some (.int .i64 n.changed) := HN1.out.cell 1
  have c5 : w1.cell? ⟨q, 5, none⟩ = some (.int .i64 n.len) := HN1.out.cell 5
  have f7 := HN1.out.free 7
  have f1 := HN1.out.free 1
  have f5 := HN1.out.free 5
  go_wp2
  go_end0
  refine ⟨rfl, ((HN1.out.set 7 _).set 1 _).set 5 _, grown_set (grown_set (grown_set (grownBy_below HB.out) _) _) _⟩

set_option maxRecDepth 20000 in
set_option maxHeartbeats 4000000 in
theorem write_any10 (q : Nat) (n : Kq.Kn) (v : Value) (z : Int) (d : ByteArray) (w : World) (h : Cb w q (k10 n v) 39) (hf : Fine10 n) (hd : d.size ≤ 20000) :
    Calls Tryd.prog 30 #[dptr q, .int .i64 z, .string d] w fun e w' => e = .returned (.tuple #[]) ∧ Cb w' q (k10 (Kq.write n z d) v) 39 ∧ w.grownBy w' (some q) := by
  have HF : Hid (Calls Tryd.prog 39 #[.pointer (some ⟨q, 0, none⟩), .int .i64 z, .string d] w fun e w' => e = .returned (.tuple #[]) ∧ Cb w' q (k10 (Kq.fill n z d) v) 39 ∧ w.grownBy w' (some q)) := fill_any10 q n v z d w h hd
  have HM : Hid (∀ w, Calls Tryd.prog 43 #[.int .i64 n.ver] w fun e w' => e = .returned (.int .i64 (Kq.more n.ver)) ∧ w' = w) := fun w => oneMore_any10 n.ver w hf.ver
  clear h
  unfold dptr
  go_enter Tryd.func30, Tryd.ntmps30
  go_wp2_with fail
  refine HF.out.mono ?_
  rintro e w1 ⟨rfl, hc, hg⟩
  have HN1 : Hid (Cb w1 q (k10 (Kq.fill n z d) v) 39) := hc
  have HG : Hid (w.grownBy w1 (some q)) := hg
  clear hc hg
  have c2 : w1.cell? ⟨q, 2, none⟩ = some (.int .i64 n.ver) := HN1.out.cell 2
  have f2 := HN1.out.free 2
  go_wp2_with fail
  refine (HM.out _).mono ?_
  rintro e w2 ⟨rfl, hw⟩
  rw [hw]
  clear hw w2
  go_wp2
  go_end0
  exact ⟨rfl, HN1.out.set 2 _, grown_set HG.out _⟩

set_option maxRecDepth 20000 in
set_option maxHeartbeats 1000000 in
theorem eph_any10 (q : Nat) (n : Kq.Kn) (v : Value) (w : World) (h : Cb w q (k10 n v) 39) :
    Calls Tryd.prog 48 #[dptr q] w fun e w' => e = .returned (.bool (decide (n.owner ≠ 0))) ∧ Below w.heap.size w w' := by
  have c4 : w.cell? ⟨q, 4, none⟩ = some (.int .i64 n.owner) := h.cell 4
  clear h
  unfold dptr
  go_enter Tryd.func48, Tryd.ntmps48
  go_wp2
  go_ret
  exact ⟨by simp [bne, BEq.beq], Below.refl _ _⟩

set_option maxRecDepth 20000 in
set_option maxHeartbeats 4000000 in
theorem new_any10 (z o : Int) (d : ByteArray) (w : World) (hd : d.size ≤ 20000) :
    Calls Tryd.prog 25 #[.int .i64 z, .int .i64 o, .string d] w fun e w' => ∃ a c, e = .returned (kv (Kq.new z o d) (.slice a 0 c)) ∧ w'.ownsRow w.heap.size 9 1 (.slice a 0 c) 0 [] ∧ Below w.heap.size w w' := by
  have HF : Hid (∀ (q : Nat) (n : Kq.Kn) (v : Value) (w : World), Cb w q (k10 n v) 39 → Calls Tryd.prog 39 #[.pointer (some ⟨q, 0, none⟩), .int .i64 z, .string d] w fun e w' => e = .returned (.tuple #[]) ∧ Cb w' q (k10 (Kq.fill n z d) v) 39 ∧ w.grownBy w' (some q)) := fun q n v w h => fill_any10 q n v z d w h hd
  obtain ⟨q0, hq0⟩ : ∃ x, x = w.heap.size := ⟨_, rfl⟩
  obtain ⟨q1, hq1⟩ : ∃ x, x = w.heap.size + 1 := ⟨_, rfl⟩
  have H0 : Hid (Cb ((w.alloc (.cells #[.int .i64 0, .int .i64 0, .int .i64 0, .int .i64 0, .int .i64 0, .int .i64 0, .int .i64 0, .string ⟨#[]⟩, .int .i64 0, .slice none 0 0] 39)).alloc (.cells #[.int .i64 z, .int .i64 0, .int .i64 0, .int .i64 0, .int .i64 o, .int .i64 0, .int .i64 0, .string ⟨#[]⟩, .int .i64 0, .slice none 0 0] 39)) q0 (k10 Kq.zero (.slice none 0 0)) 39 ∧ Cb ((w.alloc (.cells #[.int .i64 0, .int .i64 0, .int .i64 0, .int .i64 0, .int .i64 0, .int .i64 0, .int .i64 0, .string ⟨#[]⟩, .int .i64 0, .slice none 0 0] 39)).alloc (.cells #[.int .i64 z, .int .i64 0, .int .i64 0, .int .i64 0, .int .i64 o, .int .i64 0, .int .i64 0, .string ⟨#[]⟩, .int .i64 0, .slice none 0 0] 39)) q1 (k10 (⟨z, 0, 0, 0, o, 0, 0, ⟨#[]⟩, 0, []⟩ : Kq.Kn) (.slice none 0 0)) 39 ∧ Below w.heap.size w ((w.alloc (.cells #[.int .i64 0, .int .i64 0, .int .i64 0, .int .i64 0, .int .i64 0, .int .i64 0, .int .i64 0, .string ⟨#[]⟩, .int .i64 0, .slice none 0 0] 39)).alloc (.cells #[.int .i64 z, .int .i64 0, .int .i64 0, .int .i64 0, .int .i64 o, .int .i64 0, .int .i64 0, .string ⟨#[]⟩, .int .i64 0, .slice none 0 0] 39))) := by
    have hb1 := (Below.refl _ w).alloc (Nat.le_refl _) (.cells #[.int .i64 0, .int .i64 0, .int .i64 0, .int .i64 0, .int .i64 0, .int .i64 0, .int .i64 0, .string ⟨#[]⟩, .int .i64 0, .slice none 0 0] 39)
    have h1 := Cb.made w [.int .i64 0, .int .i64 0, .int .i64 0, .int .i64 0, .int .i64 0, .int .i64 0, .int .i64 0, .string ⟨#[]⟩, .int .i64 0, .slice none 0 0] 39
    have h2 := Cb.made (w.alloc (.cells #[.int .i64 0, .int .i64 0, .int .i64 0, .int .i64 0, .int .i64 0, .int .i64 0, .int .i64 0, .string ⟨#[]⟩, .int .i64 0, .slice none 0 0] 39)) [.int .i64 z, .int .i64 0, .int .i64 0, .int .i64 0, .int .i64 o, .int .i64 0, .int .i64 0, .string ⟨#[]⟩, .int .i64 0, .slice none 0 0] 39
    rw [World.size_alloc, ← hq1] at h2
    refine ⟨?_, h2, hb1.alloc hb1.size _⟩
    rw [hq0]
    exact h1.below ((Below.refl _ _).alloc (Nat.le_refl _) _)
  have HQ : Hid (q0 = w.heap.size ∧ q1 = w.heap.size + 1) := ⟨hq0, hq1⟩
  go_enter Tryd.func25, Tryd.ntmps25
  go_wp2_with fail
  rw [← hq1, ← hq0]
  clear hq1 hq0
  generalize (w.alloc (.cells #[.int .i64 0, .int .i64 0, .int .i64 0, .int .i64 0, .int .i64 0, .int .i64 0, .int .i64 0, .string ⟨#[]⟩, .int .i64 0, .slice none 0 0] 39)).alloc (.cells #[.int .i64 z, .int .i64 0, .int .i64 0, .int .i64 0, .int .i64 o, .int .i64 0, .int .i64 0, .string ⟨#[]⟩, .int .i64 0, .slice none 0 0] 39) = w0 at *
  refine (HF.out q1 _ _ _ H0.out.2.1).mono ?_
  rintro e w1 ⟨rfl, hc, hg⟩
  have H1 : Hid (Cb w1 q1 (k10 (⟨z, z, 0, 0, o, (d.size : Int), 0, d, 0, []⟩ : Kq.Kn) (.slice none 0 0)) 39 ∧ Cb w1 q0 (k10 Kq.zero (.slice none 0 0)) 39 ∧ Below w.heap.size w w1) := ⟨hc, H0.out.1.keep (hg.block _ H0.out.1.lt (fun e => by have := HQ.out; simp at e; omega)), H0.out.2.2.grown hg H0.out.2.2.size (fun k hk => by have := HQ.out; simp at hk; omega)⟩
  clear hc hg
  obtain ⟨c0, c1, c2, c3, c4, c5, c6, c7, c8, c9⟩ := ten_cells H1.out.1
  obtain ⟨z0, z1, z2, z3, z4, z5, z6, z7, z8, z9⟩ := ten_cells H1.out.2.1
  simp only [] at c0 c1 c2 c3 c4 c5 c6 c7 c8 c9
  have f0 := H1.out.2.1.free 0
  have f1 := H1.out.2.1.free 1
  have f2 := H1.out.2.1.free 2
  have f3 := H1.out.2.1.free 3
  have f4 := H1.out.2.1.free 4
  have f5 := H1.out.2.1.free 5
  have f6 := H1.out.2.1.free 6
  have f7 := H1.out.2.1.free 7
  have f8 := H1.out.2.1.free 8
  have f9 := H1.out.2.1.free 9
  go_wp2
  clear c0 c1 c2 c3 c4 c5 c6 c7 c8 c9 z0 z1 z2 z3 z4 z5 z6 z7 z8 z9 f0 f1 f2 f3 f4 f5 f6 f7 f8 f9
  have HX : Hid (Cb (put10 w1 q0 (Kq.new z o d) (.slice none 0 0)) q0 (k10 (Kq.new z o d) (.slice none 0 0)) 39 ∧ Below w.heap.size w (put10 w1 q0 (Kq.new z o d) (.slice none 0 0))) := ⟨put10_cb H1.out.2.1, H1.out.2.2.grown (put10_grown _ _ _ _) H1.out.2.2.size (fun k hk => by have := HQ.out; simp at hk; omega)⟩
  unfold put10 Kq.new at HX
  simp only [] at HX
  generalize ((((((((((w1).setCell ⟨q0, 0, none⟩ (.int .i64 z)).setCell ⟨q0, 1, none⟩ (.int .i64 z)).setCell ⟨q0, 2, none⟩ (.int .i64 0)).setCell ⟨q0, 3, none⟩ (.int .i64 0)).setCell ⟨q0, 4, none⟩ (.int .i64 o)).setCell ⟨q0, 5, none⟩ (.int .i64 (d.size : Int))).setCell ⟨q0, 6, none⟩ (.int .i64 0)).setCell ⟨q0, 7, none⟩ (.string d)).setCell ⟨q0, 8, none⟩ (.int .i64 0)).setCell ⟨q0, 9, none⟩ (.slice none 0 0) = wy at *
  refine bodyPost_ret (v := .agg #[.int .i64 z, .int .i64 z, .int .i64 0, .int .i64 0, .int .i64 o, .int .i64 (d.size : Int), .int .i64 0, .string d, .int .i64 0, .slice none 0 0]) ?_ rfl ⟨none, 0, rfl, World.ownsRow_nil _ _ _ _, HX.out.2⟩
  obtain ⟨c0, c1, c2, c3, c4, c5, c6, c7, c8, c9⟩ := ten_cells HX.out.1
  simp only [] at c0 c1 c2 c3 c4 c5 c6 c7 c8 c9
  rw [results_one10 rfl]
  go_simp
end Go.Proofs.YtfcbdjjbchcpjaaDoor
