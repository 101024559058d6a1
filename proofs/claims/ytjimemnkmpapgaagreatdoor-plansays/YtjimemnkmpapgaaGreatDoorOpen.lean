/- What arguments give the walks: bytes, numbers, texts, wherever they lie. -/
import Derived.Test.YtjimemnkmpapgaaGreatDoorRows
import Derived.Test.YtjimemnkmpapgaaGreatDoorBase
import Derived.WalkKit
import Derived.ProofKit
import Derived.OpenShut
import Derived.SliceStrings
import Derived.Deep.Matrix
import Derived.Carry
namespace Go.Proofs.YtjimemnkmpapgaaGreatDoor
open Go.ChangeShapes Go.WideShapes Go.ChangeAt Go.RowKit

theorem own : ownKnob Tryz.prog.godebug = none := by kernel_rfl
theorem laidOut : laidOutB Tryz.prog = true := by kernel_rfl
theorem cellsByte : Tryz.prog.cellsOf 5 = 1 := by kernel_rfl
theorem cellsI64 : Tryz.prog.cellsOf 2 = 1 := by kernel_rfl
theorem cellsInt : Tryz.prog.cellsOf 3 = 1 := by kernel_rfl
theorem cellsString : Tryz.prog.cellsOf 9 = 1 := by kernel_rfl

/-- A byte that fits is a byte. -/
theorem byte_of {z : Int} (h : (Lit.int .u8 z).wf = true) : z = ((UInt8.ofNat z.toNat).toNat : Int) := by
  have := bounds_u8 h
  rw [UInt8.toNat_ofNat']
  omega

set_option maxRecDepth 100000 in
theorem open_bs {H : Type} {enc : TypeId × Value → H} {W : World} {base : Nat} {v : Value} {d : DataW H} {p : List MemPlace} (hval : Value.okWide Tryz.prog W .any base 160 v) (h : DataW.Trod enc Tryz.prog W 0 (fun _ => true) true 160 v d p) :
    ∃ xs : List UInt8, Bs W v xs ∧ xs.length ≤ maxLen := by
  obtain ⟨a0, len, cap, rfl⟩ := okWide_slice Tryz.underlying160 hval
  obtain ⟨fuel, hf⟩ := h
  rcases open_ints Tryz.underlying160 Tryz.underlying5 cellsByte hf with ⟨hcs, _⟩ | ⟨a, len', cap', zs, hcs, _, hl, hm, hz, _, hcell, hws⟩
  · simp only [Value.cells, List.cons.injEq, Value.slice.injEq, and_true] at hcs
    obtain ⟨rfl, rfl, rfl⟩ := hcs
    exact ⟨[], Bs.nil W, Nat.zero_le _⟩
  · simp only [Value.cells, List.cons.injEq, Value.slice.injEq, and_true] at hcs
    obtain ⟨rfl, rfl, rfl⟩ := hcs
    have hzl : zs.length = cap := by simpa using hz
    have hlen : ((zs.take len).map fun n => UInt8.ofNat n.toNat).length = len := by simp; omega
    refine ⟨(zs.take len).map fun n => UInt8.ofNat n.toNat, ⟨some a, len, cap, rfl, hlen.symm, by rw [hlen]; exact hl, fun e => by (cases e), ?_⟩, by rw [hlen]; omega⟩
    intro ad had j u hu
    obtain rfl := Option.some.inj had
    have hj : j < len := by
      have := (List.getElem?_eq_some_iff.1 hu).1
      rw [bc_len, hlen] at this
      exact this
    rw [hcell j (by omega)]
    have hjz : j < zs.length := by omega
    have hwj := byte_of (hws (zs[j]) (List.getElem_mem hjz))
    have e : (bc ((zs.take len).map fun n => UInt8.ofNat n.toNat))[j]? = some (.int .u8 ((UInt8.ofNat (zs[j]).toNat).toNat : Int)) := by
      simp [bc, List.getElem?_take_of_lt hj, List.getElem?_eq_getElem hjz]
    rw [e] at hu
    rw [← Option.some.inj hu]
    congr 2
    rw [← hwj]
    simp [List.getD, List.getElem?_eq_getElem hjz]


set_option maxRecDepth 100000 in
theorem open_bn {H : Type} {enc : TypeId × Value → H} {W : World} {base : Nat} {v : Value} {d : DataW H} {p : List MemPlace} (hval : Value.okWide Tryz.prog W .any base 27 v) (h : DataW.Trod enc Tryz.prog W 0 (fun _ => true) true 27 v d p) :
    ∃ zs : List Int, Bi W v zs ∧ zs.length ≤ maxLen ∧ ∀ z ∈ zs, -9223372036854775808 ≤ z ∧ z ≤ 9223372036854775807 := by
  obtain ⟨a0, len, cap, rfl⟩ := okWide_slice Tryz.underlying27 hval
  obtain ⟨fuel, hf⟩ := h
  rcases open_ints Tryz.underlying27 Tryz.underlying3 cellsInt hf with ⟨hcs, _⟩ | ⟨a, len', cap', zs, hcs, _, hl, hm, hz, _, hcell, hws⟩
  · simp only [Value.cells, List.cons.injEq, Value.slice.injEq, and_true] at hcs
    obtain ⟨rfl, rfl, rfl⟩ := hcs
    exact ⟨[], ⟨_, _, _, rfl, rfl, fun j z h => by simp at h⟩, Nat.zero_le _, fun _ h => by cases h⟩
  · simp only [Value.cells, List.cons.injEq, Value.slice.injEq, and_true] at hcs
    obtain ⟨rfl, rfl, rfl⟩ := hcs
    have hzl : zs.length = cap := by simpa using hz
    have hlen : (zs.take len).length = len := by simp; omega
    refine ⟨zs.take len, ?_, by rw [hlen]; omega, fun z hz => bounds_i64 (hws z (List.mem_of_mem_take hz))⟩
    by_cases h0 : len = 0
    · subst h0
      exact ⟨_, _, _, rfl, by simp, fun j z h => by simp at h⟩
    · obtain ⟨b, o, rfl, hc⟩ := ints_at hcell (by omega)
      refine ⟨some ⟨b, o, none⟩, len, cap, rfl, hlen.symm, fun j z hz => ⟨b, o, rfl, ?_⟩⟩
      have hj : j < len := by
        have := (List.getElem?_eq_some_iff.1 hz).1
        omega
      rw [hc j (by omega)]
      rw [List.getElem?_take_of_lt hj] at hz
      simp [List.getD, hz]

theorem strs_at {W : World} {a : Addr} {ss : List ByteArray} (h : ∀ i, i < ss.length → W.cell? (a.add i) = some (.string (ss.getD i ByteArray.empty))) (hp : 0 < ss.length) :
    ∃ b off, a = ⟨b, off, none⟩ ∧ ∀ j, j < ss.length → W.cell? ⟨b, off + j, none⟩ = some (.string (ss.getD j ByteArray.empty)) := by
  obtain ⟨b, off, spot⟩ := a
  have hspot : spot = none := by simpa [Addr.add] using World.cell?_spot (h 0 hp)
  subst hspot
  exact ⟨b, off, rfl, fun j hj => by rw [← Go.WideShapes.add_plain]; exact h j hj⟩

set_option maxRecDepth 100000 in
theorem open_ss {H : Type} {enc : TypeId × Value → H} {W : World} {base : Nat} {v : Value} {d : DataW H} {p : List MemPlace} (hval : Value.okWide Tryz.prog W .any base 46 v) (h : DataW.Trod enc Tryz.prog W 0 (fun _ => true) true 46 v d p) :
    ∃ ss : List ByteArray, Ss W v ss ∧ ss.length ≤ maxLen ∧ ∀ s ∈ ss, s.size ≤ maxLen := by
  obtain ⟨a0, len, cap, rfl⟩ := okWide_slice Tryz.underlying46 hval
  obtain ⟨fuel, hf⟩ := h
  rcases open_strings Tryz.underlying46 Tryz.underlying9 cellsString hf with ⟨hcs, _⟩ | ⟨a, len', cap', ss, hcs, _, hl, hm, hz, _, hcell, hws⟩
  · simp only [Value.cells, List.cons.injEq, Value.slice.injEq, and_true] at hcs
    obtain ⟨rfl, rfl, rfl⟩ := hcs
    exact ⟨[], ⟨_, _, _, rfl, rfl, fun j z h => by simp at h⟩, Nat.zero_le _, fun _ h => by cases h⟩
  · simp only [Value.cells, List.cons.injEq, Value.slice.injEq, and_true] at hcs
    obtain ⟨rfl, rfl, rfl⟩ := hcs
    have hzl : ss.length = cap := by simpa using hz
    have hlen : (ss.take len).length = len := by simp; omega
    refine ⟨ss.take len, ?_, by rw [hlen]; omega, fun s hs => hws s (List.mem_of_mem_take hs)⟩
    by_cases h0 : len = 0
    · subst h0
      exact ⟨_, _, _, rfl, by simp, fun j z h => by simp at h⟩
    · obtain ⟨b, o, rfl, hc⟩ := strs_at hcell (by omega)
      refine ⟨some ⟨b, o, none⟩, len, cap, rfl, hlen.symm, fun j z hz => ⟨b, o, rfl, ?_⟩⟩
      have hj : j < len := by
        have := (List.getElem?_eq_some_iff.1 hz).1
        omega
      rw [hc j (by omega)]
      rw [List.getElem?_take_of_lt hj] at hz
      simp [List.getD, hz]

end Go.Proofs.YtjimemnkmpapgaaGreatDoor
