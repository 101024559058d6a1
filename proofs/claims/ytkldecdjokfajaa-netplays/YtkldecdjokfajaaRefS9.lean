/- What the reference's network answers to Send. -/
import Derived.Test.YtkldecdjokfajaaRefH9
import Derived.Deep.DeepCutAuto
namespace Go.Proofs.Ytkldecdjokfajaa
open Go.RowKit

set_option maxRecDepth 20000 in
set_option maxHeartbeats 4000000 in
theorem refSend_no1 (q : Nat) (n : Nq.Nt) (G : Nat → Prop) (v : Value) (ts : List Mt) (C : List Value) (fr tt kd : Int) (a1 a2 : Option Addr) (n1 c1 n2 c2 : Nat) (w : World) (h : Rf9 w q n G v ts C) (e1 : Nq.node n fr = false) :
    Calls Try.prog 15 #[dptr q, .agg #[.int .i64 fr, .int .i64 tt, .int .i64 kd, .slice a1 n1 c1, .slice a2 n2 c2]] w fun e w' => e = .returned (.bool false) ∧ Below w.heap.size w w' := by
  have HH : Hid (Rf9 w q n G v ts C) := h
  obtain ⟨av, cv, rfl, hcv⟩ := h.slice
  obtain ⟨m, hm⟩ : ∃ m, m = ts.length := ⟨_, rfl⟩
  have HM : Hid (m = ts.length ∧ m ≤ 65536) := ⟨hm, by rw [hm, h.tlen]; exact Nat.le_trans h.fine.fits h.fine.room⟩
  obtain ⟨r, hr⟩ : ∃ r, r = n.room := ⟨_, rfl⟩
  have HBA : Hid (Below w.heap.size w (w.alloc (.cells #[.int .i64 fr, .int .i64 tt, .int .i64 kd, .slice a1 n1 c1, .slice a2 n2 c2] 47))) := (Below.refl _ w).alloc (Nat.le_refl _) _
  have HHA : Hid (Rf9 (w.alloc (.cells #[.int .i64 fr, .int .i64 tt, .int .i64 kd, .slice a1 n1 c1, .slice a2 n2 c2] 47)) q n G (.slice av ts.length cv) ts C) := h.below HBA.out
  have HN : ∀ k i, Hid (Calls Try.prog 31 #[dptr q, .int .i64 k] ((w.alloc (.cells #[.int .i64 fr, .int .i64 tt, .int .i64 kd, .slice a1 n1 c1, .slice a2 n2 c2] 47)).drewN i) fun e w' => e = .returned (.bool (Nq.node n k)) ∧ w' = (w.alloc (.cells #[.int .i64 fr, .int .i64 tt, .int .i64 kd, .slice a1 n1 c1, .slice a2 n2 c2] 47)).drewN i) := fun k i => refNode_any q n G _ ts C k _ (HHA.out.below (below_drewN (Below.refl _ _) i))
  have l1 : (w.alloc (.cells #[.int .i64 fr, .int .i64 tt, .int .i64 kd, .slice a1 n1 c1, .slice a2 n2 c2] 47)).cell? ⟨q, 1, none⟩ = some (.int .i64 (r : Int)) := by rw [hr]; exact (HHA.out.cell 1).trans h.c1
  have l2 : (w.alloc (.cells #[.int .i64 fr, .int .i64 tt, .int .i64 kd, .slice a1 n1 c1, .slice a2 n2 c2] 47)).cell? ⟨q, 2, none⟩ = some (.slice av m cv) := by rw [hm]; exact (HHA.out.cell 2).trans h.c2
  have HBX3 : Hid (∀ i u, ([.int .i64 fr, .int .i64 tt, .int .i64 kd, .slice a1 n1 c1, .slice a2 n2 c2] : List Value)[i]? = some u → (w.alloc (.cells #[.int .i64 fr, .int .i64 tt, .int .i64 kd, .slice a1 n1 c1, .slice a2 n2 c2] 47)).cell? ⟨w.heap.size, i, none⟩ = some u) := fun i u hu => cell?_alloc_at _ _ _ _ _ _ (by simpa using hu)
  have x0 := HBX3.out 0 _ rfl
  have x1 := HBX3.out 1 _ rfl
  clear l1 l2 x1
  clear h hm hr hcv
  go_enter Try.func15, Try.ntmps15
  go_upto_region 1 with fail
  generalize hwA : w.alloc (.cells #[.int .i64 fr, .int .i64 tt, .int .i64 kd, .slice a1 n1 c1, .slice a2 n2 c2] 47) = wA at *
  clear hwA
  go_quiet (first
    | (go_at_call 31; exact Calls.quiet_of_same (HN _ _).out))
  go_wp2
  go_ret
  exact ⟨rfl, below_drewN HBA.out _⟩

set_option maxRecDepth 20000 in
set_option maxHeartbeats 4000000 in
theorem refSend_no2 (q : Nat) (n : Nq.Nt) (G : Nat → Prop) (v : Value) (ts : List Mt) (C : List Value) (fr tt kd : Int) (a1 a2 : Option Addr) (n1 c1 n2 c2 : Nat) (w : World) (h : Rf9 w q n G v ts C) (e1 : Nq.node n fr = true) (e2 : Nq.node n tt = false) :
    Calls Try.prog 15 #[dptr q, .agg #[.int .i64 fr, .int .i64 tt, .int .i64 kd, .slice a1 n1 c1, .slice a2 n2 c2]] w fun e w' => e = .returned (.bool false) ∧ Below w.heap.size w w' := by
  have HH : Hid (Rf9 w q n G v ts C) := h
  obtain ⟨av, cv, rfl, hcv⟩ := h.slice
  obtain ⟨m, hm⟩ : ∃ m, m = ts.length := ⟨_, rfl⟩
  have HM : Hid (m = ts.length ∧ m ≤ 65536) := ⟨hm, by rw [hm, h.tlen]; exact Nat.le_trans h.fine.fits h.fine.room⟩
  obtain ⟨r, hr⟩ : ∃ r, r = n.room := ⟨_, rfl⟩
  have HBA : Hid (Below w.heap.size w (w.alloc (.cells #[.int .i64 fr, .int .i64 tt, .int .i64 kd, .slice a1 n1 c1, .slice a2 n2 c2] 47))) := (Below.refl _ w).alloc (Nat.le_refl _) _
  have HHA : Hid (Rf9 (w.alloc (.cells #[.int .i64 fr, .int .i64 tt, .int .i64 kd, .slice a1 n1 c1, .slice a2 n2 c2] 47)) q n G (.slice av ts.length cv) ts C) := h.below HBA.out
  have HN : ∀ k i, Hid (Calls Try.prog 31 #[dptr q, .int .i64 k] ((w.alloc (.cells #[.int .i64 fr, .int .i64 tt, .int .i64 kd, .slice a1 n1 c1, .slice a2 n2 c2] 47)).drewN i) fun e w' => e = .returned (.bool (Nq.node n k)) ∧ w' = (w.alloc (.cells #[.int .i64 fr, .int .i64 tt, .int .i64 kd, .slice a1 n1 c1, .slice a2 n2 c2] 47)).drewN i) := fun k i => refNode_any q n G _ ts C k _ (HHA.out.below (below_drewN (Below.refl _ _) i))
  have l1 : (w.alloc (.cells #[.int .i64 fr, .int .i64 tt, .int .i64 kd, .slice a1 n1 c1, .slice a2 n2 c2] 47)).cell? ⟨q, 1, none⟩ = some (.int .i64 (r : Int)) := by rw [hr]; exact (HHA.out.cell 1).trans h.c1
  have l2 : (w.alloc (.cells #[.int .i64 fr, .int .i64 tt, .int .i64 kd, .slice a1 n1 c1, .slice a2 n2 c2] 47)).cell? ⟨q, 2, none⟩ = some (.slice av m cv) := by rw [hm]; exact (HHA.out.cell 2).trans h.c2
  have HBX3 : Hid (∀ i u, ([.int .i64 fr, .int .i64 tt, .int .i64 kd, .slice a1 n1 c1, .slice a2 n2 c2] : List Value)[i]? = some u → (w.alloc (.cells #[.int .i64 fr, .int .i64 tt, .int .i64 kd, .slice a1 n1 c1, .slice a2 n2 c2] 47)).cell? ⟨w.heap.size, i, none⟩ = some u) := fun i u hu => cell?_alloc_at _ _ _ _ _ _ (by simpa using hu)
  have x0 := HBX3.out 0 _ rfl
  have x1 := HBX3.out 1 _ rfl
  clear l1 l2
  clear h hm hr hcv
  go_enter Try.func15, Try.ntmps15
  go_upto_region 1 with fail
  generalize hwA : w.alloc (.cells #[.int .i64 fr, .int .i64 tt, .int .i64 kd, .slice a1 n1 c1, .slice a2 n2 c2] 47) = wA at *
  clear hwA
  go_quiet (first
    | (go_at_call 31; exact Calls.quiet_of_same (HN _ _).out))
  go_wp2
  go_ret
  exact ⟨rfl, below_drewN HBA.out _⟩

set_option maxRecDepth 20000 in
set_option maxHeartbeats 4000000 in
theorem refSend_no3 (q : Nat) (n : Nq.Nt) (G : Nat → Prop) (v : Value) (ts : List Mt) (C : List Value) (fr tt kd : Int) (a1 a2 : Option Addr) (n1 c1 n2 c2 : Nat) (w : World) (h : Rf9 w q n G v ts C) (e1 : Nq.node n fr = true) (e2 : Nq.node n tt = true) (e3 : n.cut fr.toNat tt.toNat = true) :
    Calls Try.prog 15 #[dptr q, .agg #[.int .i64 fr, .int .i64 tt, .int .i64 kd, .slice a1 n1 c1, .slice a2 n2 c2]] w fun e w' => e = .returned (.bool false) ∧ Below w.heap.size w w' := by
  have HH : Hid (Rf9 w q n G v ts C) := h
  obtain ⟨av, cv, rfl, hcv⟩ := h.slice
  obtain ⟨m, hm⟩ : ∃ m, m = ts.length := ⟨_, rfl⟩
  have HM : Hid (m = ts.length ∧ m ≤ 65536) := ⟨hm, by rw [hm, h.tlen]; exact Nat.le_trans h.fine.fits h.fine.room⟩
  obtain ⟨r, hr⟩ : ∃ r, r = n.room := ⟨_, rfl⟩
  have HBA : Hid (Below w.heap.size w (w.alloc (.cells #[.int .i64 fr, .int .i64 tt, .int .i64 kd, .slice a1 n1 c1, .slice a2 n2 c2] 47))) := (Below.refl _ w).alloc (Nat.le_refl _) _
  have HHA : Hid (Rf9 (w.alloc (.cells #[.int .i64 fr, .int .i64 tt, .int .i64 kd, .slice a1 n1 c1, .slice a2 n2 c2] 47)) q n G (.slice av ts.length cv) ts C) := h.below HBA.out
  have HN : ∀ k i, Hid (Calls Try.prog 31 #[dptr q, .int .i64 k] ((w.alloc (.cells #[.int .i64 fr, .int .i64 tt, .int .i64 kd, .slice a1 n1 c1, .slice a2 n2 c2] 47)).drewN i) fun e w' => e = .returned (.bool (Nq.node n k)) ∧ w' = (w.alloc (.cells #[.int .i64 fr, .int .i64 tt, .int .i64 kd, .slice a1 n1 c1, .slice a2 n2 c2] 47)).drewN i) := fun k i => refNode_any q n G _ ts C k _ (HHA.out.below (below_drewN (Below.refl _ _) i))
  have l1 : (w.alloc (.cells #[.int .i64 fr, .int .i64 tt, .int .i64 kd, .slice a1 n1 c1, .slice a2 n2 c2] 47)).cell? ⟨q, 1, none⟩ = some (.int .i64 (r : Int)) := by rw [hr]; exact (HHA.out.cell 1).trans h.c1
  have l2 : (w.alloc (.cells #[.int .i64 fr, .int .i64 tt, .int .i64 kd, .slice a1 n1 c1, .slice a2 n2 c2] 47)).cell? ⟨q, 2, none⟩ = some (.slice av m cv) := by rw [hm]; exact (HHA.out.cell 2).trans h.c2
  have HBX3 : Hid (∀ i u, ([.int .i64 fr, .int .i64 tt, .int .i64 kd, .slice a1 n1 c1, .slice a2 n2 c2] : List Value)[i]? = some u → (w.alloc (.cells #[.int .i64 fr, .int .i64 tt, .int .i64 kd, .slice a1 n1 c1, .slice a2 n2 c2] 47)).cell? ⟨w.heap.size, i, none⟩ = some u) := fun i u hu => cell?_alloc_at _ _ _ _ _ _ (by simpa using hu)
  have x0 := HBX3.out 0 _ rfl
  have x1 := HBX3.out 1 _ rfl
  have ha := Nq.node_iff.1 e1
  have hb := Nq.node_iff.1 e2
  have hnn := h.fine.nodes
  obtain ⟨x, hx⟩ : ∃ x : Nat, fr = (x : Int) := ⟨fr.toNat, by omega⟩
  obtain ⟨y, hy⟩ : ∃ y : Nat, tt = (y : Int) := ⟨tt.toNat, by omega⟩
  subst hx hy
  rw [Int.toNat_natCast, Int.toNat_natCast] at e3
  have hx0 : (0 : Int) ≤ (x : Int) := by omega
  have hy0 : (0 : Int) ≤ (y : Int) := by omega
  have hx64 : (x : Int) < 64 := by omega
  have hy64 : (y : Int) < 64 := by omega
  have lw := (HHA.out.cell (3 + x * 64 + y)).trans (h.ways x y (by omega) (by omega))
  rw [e3] at lw
  clear ha hb hnn e3
  clear l1 l2
  clear h hm hr hcv
  go_enter Try.func15, Try.ntmps15
  go_upto_region 1 with fail
  generalize hwA : w.alloc (.cells #[.int .i64 (x : Int), .int .i64 (y : Int), .int .i64 kd, .slice a1 n1 c1, .slice a2 n2 c2] 47) = wA at *
  clear hwA
  go_quiet (first
    | (go_at_call 31; exact Calls.quiet_of_same (HN _ _).out))
  go_wp2
  go_ret
  exact ⟨rfl, below_drewN HBA.out _⟩

set_option maxRecDepth 20000 in
set_option maxHeartbeats 4000000 in
theorem refSend_no4 (q : Nat) (n : Nq.Nt) (G : Nat → Prop) (v : Value) (ts : List Mt) (C : List Value) (fr tt kd : Int) (a1 a2 : Option Addr) (n1 c1 n2 c2 : Nat) (w : World) (h : Rf9 w q n G v ts C) (e1 : Nq.node n fr = true) (e2 : Nq.node n tt = true) (e3 : n.cut fr.toNat tt.toNat = false) (e4 : n.room ≤ ts.length) :
    Calls Try.prog 15 #[dptr q, .agg #[.int .i64 fr, .int .i64 tt, .int .i64 kd, .slice a1 n1 c1, .slice a2 n2 c2]] w fun e w' => e = .returned (.bool false) ∧ Below w.heap.size w w' := by
  have HH : Hid (Rf9 w q n G v ts C) := h
  obtain ⟨av, cv, rfl, hcv⟩ := h.slice
  obtain ⟨m, hm⟩ : ∃ m, m = ts.length := ⟨_, rfl⟩
  have HM : Hid (m = ts.length ∧ m ≤ 65536) := ⟨hm, by rw [hm, h.tlen]; exact Nat.le_trans h.fine.fits h.fine.room⟩
  obtain ⟨r, hr⟩ : ∃ r, r = n.room := ⟨_, rfl⟩
  have HBA : Hid (Below w.heap.size w (w.alloc (.cells #[.int .i64 fr, .int .i64 tt, .int .i64 kd, .slice a1 n1 c1, .slice a2 n2 c2] 47))) := (Below.refl _ w).alloc (Nat.le_refl _) _
  have HHA : Hid (Rf9 (w.alloc (.cells #[.int .i64 fr, .int .i64 tt, .int .i64 kd, .slice a1 n1 c1, .slice a2 n2 c2] 47)) q n G (.slice av ts.length cv) ts C) := h.below HBA.out
  have HN : ∀ k i, Hid (Calls Try.prog 31 #[dptr q, .int .i64 k] ((w.alloc (.cells #[.int .i64 fr, .int .i64 tt, .int .i64 kd, .slice a1 n1 c1, .slice a2 n2 c2] 47)).drewN i) fun e w' => e = .returned (.bool (Nq.node n k)) ∧ w' = (w.alloc (.cells #[.int .i64 fr, .int .i64 tt, .int .i64 kd, .slice a1 n1 c1, .slice a2 n2 c2] 47)).drewN i) := fun k i => refNode_any q n G _ ts C k _ (HHA.out.below (below_drewN (Below.refl _ _) i))
  have l1 : (w.alloc (.cells #[.int .i64 fr, .int .i64 tt, .int .i64 kd, .slice a1 n1 c1, .slice a2 n2 c2] 47)).cell? ⟨q, 1, none⟩ = some (.int .i64 (r : Int)) := by rw [hr]; exact (HHA.out.cell 1).trans h.c1
  have l2 : (w.alloc (.cells #[.int .i64 fr, .int .i64 tt, .int .i64 kd, .slice a1 n1 c1, .slice a2 n2 c2] 47)).cell? ⟨q, 2, none⟩ = some (.slice av m cv) := by rw [hm]; exact (HHA.out.cell 2).trans h.c2
  have HBX3 : Hid (∀ i u, ([.int .i64 fr, .int .i64 tt, .int .i64 kd, .slice a1 n1 c1, .slice a2 n2 c2] : List Value)[i]? = some u → (w.alloc (.cells #[.int .i64 fr, .int .i64 tt, .int .i64 kd, .slice a1 n1 c1, .slice a2 n2 c2] 47)).cell? ⟨w.heap.size, i, none⟩ = some u) := fun i u hu => cell?_alloc_at _ _ _ _ _ _ (by simpa using hu)
  have x0 := HBX3.out 0 _ rfl
  have x1 := HBX3.out 1 _ rfl
  have ha := Nq.node_iff.1 e1
  have hb := Nq.node_iff.1 e2
  have hnn := h.fine.nodes
  obtain ⟨x, hx⟩ : ∃ x : Nat, fr = (x : Int) := ⟨fr.toNat, by omega⟩
  obtain ⟨y, hy⟩ : ∃ y : Nat, tt = (y : Int) := ⟨tt.toNat, by omega⟩
  subst hx hy
  rw [Int.toNat_natCast, Int.toNat_natCast] at e3
  have hx0 : (0 : Int) ≤ (x : Int) := by omega
  have hy0 : (0 : Int) ≤ (y : Int) := by omega
  have hx64 : (x : Int) < 64 := by omega
  have hy64 : (y : Int) < 64 := by omega
  have lw := (HHA.out.cell (3 + x * 64 + y)).trans (h.ways x y (by omega) (by omega))
  rw [e3] at lw
  clear ha hb hnn e3
  rw [← hm, ← hr] at e4
  have b4 : decide (r ≤ m) = true := decide_eq_true e4
  have b5 : (r : Int) ≤ (m : Int) := by omega
  clear e4
  clear h hm hr hcv
  go_enter Try.func15, Try.ntmps15
  go_upto_region 1 with fail
  generalize hwA : w.alloc (.cells #[.int .i64 (x : Int), .int .i64 (y : Int), .int .i64 kd, .slice a1 n1 c1, .slice a2 n2 c2] 47) = wA at *
  clear hwA
  go_quiet (first
    | (go_at_call 31; exact Calls.quiet_of_same (HN _ _).out))
  go_wp2
  go_ret
  exact ⟨rfl, below_drewN HBA.out _⟩
end Go.Proofs.Ytkldecdjokfajaa
