/- TreeKnown's acts, plainly; and errors that are kept in boxes beside a tree. -/
import Derived.Test.YtfcbdjjbchcpjaaGreatDoorLAwake11
namespace Go.Proofs.YtfcbdjjbchcpjaaGreatDoor.Tq
def pE : ByteArray := ⟨#[47, 101]⟩
def pEX : ByteArray := ⟨#[47, 101, 47, 120]⟩
def pC : ByteArray := ⟨#[47, 99]⟩
def pX : ByteArray := ⟨#[47, 120]⟩
def gt (p : ByteArray) : O := ⟨5, p, ⟨#[]⟩, 0, 0⟩
def ch (p : ByteArray) : O := ⟨7, p, ⟨#[]⟩, 0, 0⟩
def kn1 : X × Tr := doo ⟨3, []⟩ (mk pAB 0) 1 1
def kn2 : X × Tr := doo kn1.2 (mk pA 0) 1 1
def kn3 : X × Tr := doo kn2.2 (mk pA 0) 1 2
def kn4 : X × Tr := doo kn3.2 (mk pE 1) 5 3
def kn5 : X × Tr := doo kn4.2 (mk pEX 0) 1 4
def kn6 : X × Tr := doo kn5.2 (mk pAB 0) 1 5
def kn7 : X × Tr := doo kn6.2 (mk pC 0) 1 6
def kn8 : X × Tr := doo kn7.2 (dl pA (-1)) 1 7
def kn9 : X × Tr := doo kn8.2 (st pA ⟨#[120]⟩ 3) 1 8
def kn10 : X × Tr := doo kn9.2 (gt pA) 0 9
def kn11 : X × Tr := doo kn10.2 (dl pAB 0) 1 9
def kn12 : X × Tr := doo kn10.2 (ch pA) 1 9
def knN : Kq.Kn := { Kq.zero with names := [⟨#[98]⟩, ⟨#[97]⟩] }
def kn13 : Int × Tr := load kn12.2 pX knN
theorem kn_errs : kn1.1.err = 4 ∧ kn3.1.err = 5 ∧ kn5.1.err = 8 ∧ kn7.1.err = 9 ∧ kn8.1.err = 7 ∧ kn9.1.err = 6 ∧ kn10.1.err = 1 ∧ kn11.1.err = 0 ∧ kn12.1.names.length = 1 ∧ kn13.1 = 1 :=
  ⟨by kernel_rfl, by kernel_rfl, by kernel_rfl, by kernel_rfl, by kernel_rfl, by kernel_rfl, by kernel_rfl, by kernel_rfl, by kernel_rfl, by kernel_rfl⟩
theorem kn_ends : ofs kn13.2 5 = [pE] ∧ keys kn13.2.l = [pA, pAB, pE] := ⟨by kernel_rfl, by kernel_rfl⟩
theorem kn_step {t : Tr} {k : Nat} (h : Fine11 t ∧ Few t k) (hk : k ≤ 800) (o : O) (s z : Int) : Fine11 (doo t o s z).2 ∧ Few (doo t o s z).2 (k + 1) := ⟨fine_doo h.1 (h.2.more (by omega)), few_doo h.2⟩
theorem kn_f0 : Fine11 ⟨3, []⟩ ∧ Few ⟨3, []⟩ 0 := ⟨fine11_new (by decide), few_new 3⟩
theorem kn_f1 : Fine11 kn1.2 ∧ Few kn1.2 1 := kn_step kn_f0 (by decide) _ _ _
theorem kn_f2 : Fine11 kn2.2 ∧ Few kn2.2 2 := kn_step kn_f1 (by decide) _ _ _
theorem kn_f3 : Fine11 kn3.2 ∧ Few kn3.2 3 := kn_step kn_f2 (by decide) _ _ _
theorem kn_f4 : Fine11 kn4.2 ∧ Few kn4.2 4 := kn_step kn_f3 (by decide) _ _ _
theorem kn_f5 : Fine11 kn5.2 ∧ Few kn5.2 5 := kn_step kn_f4 (by decide) _ _ _
theorem kn_f6 : Fine11 kn6.2 ∧ Few kn6.2 6 := kn_step kn_f5 (by decide) _ _ _
theorem kn_f7 : Fine11 kn7.2 ∧ Few kn7.2 7 := kn_step kn_f6 (by decide) _ _ _
theorem kn_f8 : Fine11 kn8.2 ∧ Few kn8.2 8 := kn_step kn_f7 (by decide) _ _ _
theorem kn_f9 : Fine11 kn9.2 ∧ Few kn9.2 9 := kn_step kn_f8 (by decide) _ _ _
theorem kn_f10 : Fine11 kn10.2 ∧ Few kn10.2 10 := kn_step kn_f9 (by decide) _ _ _
theorem kn_f12 : Fine11 kn12.2 ∧ Few kn12.2 11 := kn_step kn_f10 (by decide) _ _ _
theorem kn_same : kn13.2 = kn12.2 := by kernel_rfl
end Go.Proofs.YtfcbdjjbchcpjaaGreatDoor.Tq
namespace Go.Proofs.YtfcbdjjbchcpjaaGreatDoor
open Go.RowKit

/-- An error in a box. -/
structure Er11 (w : World) (F : Nat → Prop) (q : Nat) (v : Int) : Prop where
  cell : w.cell? ⟨q, 0, none⟩ = some (.int .i64 v)
  off : ¬ F q
theorem Er11.lt {w : World} {F : Nat → Prop} {q : Nat} {v : Int} (h : Er11 w F q v) : q < w.heap.size := World.block_lt_of_cell? w _ h.cell
def Ers11 (w : World) (F : Nat → Prop) (l : List (Nat × Int)) : Prop := ∀ e ∈ l, Er11 w F e.1 e.2
theorem Ers11.moved {w w' : World} {F F' : Nat → Prop} {l : List (Nat × Int)} (h : Ers11 w F l) (hm : Moved w w' F F') : Ers11 w' F' l := fun e he => by
  have h1 := h e he
  refine ⟨(World.cell?_of_block (hm.block e.1 h1.lt h1.off)).trans h1.cell, fun hF => ?_⟩
  rcases hm.sub e.1 hF with h2 | h2
  · exact h1.off h2
  · have := h1.lt
    omega
theorem Ers11.later {w w' : World} {F : Nat → Prop} {l : List (Nat × Int)} (h : Ers11 w F l) (hb : Below w.heap.size w w') : Ers11 w' F l := h.moved (Moved.of_below F hb)
theorem Ers11.nil (w : World) (F : Nat → Prop) : Ers11 w F [] := fun e he => by cases he
/-- One more box. -/
theorem Ers11.made {LT : Rep11} (S : Specs11 LT) {W w : World} {q : Nat} {t : Tq.Tr} {F : Nat → Prop} {l : List (Nat × Int)} (h : Ers11 w F l) (hM : Mine11 LT W w q t F) (cs : Array Value) (T : TypeId) (v : Int) (hv : cs[0]? = some (.int .i64 v)) : Mine11 LT W (w.alloc (.cells cs T)) q t F ∧ Ers11 (w.alloc (.cells cs T)) F ((w.heap.size, v) :: l) := by
  have hb := (Below.refl _ w).alloc (Nat.le_refl _) (.cells cs T)
  refine ⟨hM.later S hb, fun e he => ?_⟩
  rcases List.mem_cons.1 he with rfl | he
  · refine ⟨?_, fun hF => Nat.lt_irrefl _ (S.lt hM.ld hF)⟩
    show (w.alloc (.cells cs T)).cell? ⟨w.heap.size, 0, none⟩ = _
    exact cell?_alloc_at _ _ _ _ _ _ hv
  · exact h.later hb e he
end Go.Proofs.YtfcbdjjbchcpjaaGreatDoor
