/- What the statements' own awake answers. -/
import Derived.Test.YtlgpjgncimcijaaSpecs10
import Derived.Deep.Cut
namespace Go.Proofs.Ytlgpjgncimcijaa
open Go.RowKit

set_option maxRecDepth 20000 in
set_option maxHeartbeats 4000000 in
theorem awake_any10 (S : Specs10) (W : World) :
    Calls Try.prog 9 #[] W fun e w' => e = .returned (.bool true) ∧ Below W.heap.size W w' := by
  have HS : Hid Specs10 := S
  clear S
  go_enter Try.func9, Try.ntmps9
  go_wp2_with fail
  refine (HS.out.new 5 0 ⟨#[97, 98]⟩ W (by decide)).mono ?_
  rintro e x1 ⟨a1, c1, rfl, hr, hb⟩
  obtain ⟨n1, hn⟩ : ∃ n, n = Kq.new 5 0 ⟨#[97, 98]⟩ := ⟨_, rfl⟩
  have HN1 : Hid (n1 = Kq.new 5 0 ⟨#[97, 98]⟩) := hn
  rw [← hn]
  have hM := mine10_made (n := n1) (Below.refl _ W) hb hr (by rw [hn]; rfl) (by rw [hn]; exact fine_new (by decide))
  obtain ⟨q1, hq1⟩ : ∃ z, z = x1.heap.size := ⟨_, rfl⟩
  rw [← hq1] at hM
  have M1 : Hid (Mine10 W (x1.alloc (.cells [.int .i64 n1.made, .int .i64 n1.changed, .int .i64 n1.ver, .int .i64 n1.kids, .int .i64 n1.owner, .int .i64 n1.len, .int .i64 n1.cnt, .string n1.data, .int .i64 n1.next, .slice a1 0 c1].toArray 27)) q1 n1 (.slice a1 0 c1)) := hM
  clear hM hr hb hn
  unfold kv
  go_wp2_with fail
  rw [← hq1]
  clear hq1
  generalize x1.alloc (.cells [.int .i64 n1.made, .int .i64 n1.changed, .int .i64 n1.ver, .int .i64 n1.kids, .int .i64 n1.owner, .int .i64 n1.len, .int .i64 n1.cnt, .string n1.data, .int .i64 n1.next, .slice a1 0 c1].toArray 27) = w1 at *
  obtain ⟨n2, hn2⟩ : ∃ n, n = Kq.add n1 ⟨#[120]⟩ := ⟨_, rfl⟩
  have HN2 : Hid (n2 = Kq.add n1 ⟨#[120]⟩) := hn2
  refine (M1.out.add HS.out ⟨#[120]⟩ (by decide) (by rw [HN1.out]; decide) true n2 (by rw [HN1.out]; rfl) hn2.symm).mono ?_
  rintro e w2 ⟨v2, rfl, hM, hmv⟩
  have M2 : Hid (Mine10 W w2 q1 n2 v2) := hM
  have HF : Hid (n2.made = 5 ∧ n2.len = 2 ∧ n2.cnt = 1 ∧ n2.next = 1 ∧ n2.kids = 1 ∧ n2.names.length = 1 ∧ n2.owner = 0) := by
    rw [HN2.out, HN1.out]
    exact ⟨rfl, rfl, rfl, rfl, rfl, rfl, rfl⟩
  obtain ⟨a2, c2, e2, _⟩ := row_form hM.own.row
  rename_i hj
  rw [HF.out.2.2.2.2.2.1] at e2
  subst e2
  clear hM hmv hj hn2 HN1 HN2 M1
  have l0 : w2.cell? ⟨q1, 0, none⟩ = some (.int .i64 n2.made) := M2.out.own.blk.cell 0
  have l1 : w2.cell? ⟨q1, 1, none⟩ = some (.int .i64 n2.changed) := M2.out.own.blk.cell 1
  have l2 : w2.cell? ⟨q1, 2, none⟩ = some (.int .i64 n2.ver) := M2.out.own.blk.cell 2
  have l3 : w2.cell? ⟨q1, 3, none⟩ = some (.int .i64 n2.kids) := M2.out.own.blk.cell 3
  have l4 : w2.cell? ⟨q1, 4, none⟩ = some (.int .i64 n2.owner) := M2.out.own.blk.cell 4
  have l5 : w2.cell? ⟨q1, 5, none⟩ = some (.int .i64 n2.len) := M2.out.own.blk.cell 5
  have l6 : w2.cell? ⟨q1, 6, none⟩ = some (.int .i64 n2.cnt) := M2.out.own.blk.cell 6
  have l7 : w2.cell? ⟨q1, 7, none⟩ = some (.string n2.data) := M2.out.own.blk.cell 7
  have l8 : w2.cell? ⟨q1, 8, none⟩ = some (.int .i64 n2.next) := M2.out.own.blk.cell 8
  have l9 : w2.cell? ⟨q1, 9, none⟩ = some (.slice a2 1 c2) := M2.out.own.blk.cell 9
  obtain ⟨f1, f2, f3, f4, f5, f6, f7⟩ := HF.out
  rw [f1] at l0
  rw [f2] at l5
  rw [f3] at l6
  rw [f4] at l8
  rw [f5] at l3
  clear f1 f2 f3 f4 f5 f6
  go_wp2_with fail
  refine (M2.out.eph HS.out false (by rw [f7]; rfl)).mono ?_
  rintro e w3 ⟨rfl, hM, hb⟩
  have M3 : Hid (Mine10 W w3 q1 n2 (.slice a2 1 c2)) := hM
  clear hM hb f7 HF
  clear l0 l1 l2 l3 l4 l5 l6 l7 l8 l9
  go_wp2
  go_ret
  exact ⟨rfl, M3.out.below⟩
end Go.Proofs.Ytlgpjgncimcijaa
