/- Arguments that are lists of acts: from what came in to the walks' words. -/
import Derived.Test.YtphmmdjefpfehaaOpen
import Derived.Test.YtphmmdjefpfehaaActs7
import Derived.Deep.Slices
namespace Go.Proofs.Ytphmmdjefpfehaa
open Go.ChangeShapes Go.WideShapes Go.ChangeAt Go.RowKit

theorem cellsAct : Try.prog.cellsOf 44 = 5 := by kernel_rfl
theorem cellsRow : Try.prog.cellsOf 28 = 1 := by kernel_rfl
theorem Acl.nil (w : World) : Acl w (.slice none 0 0) [] := ⟨_, _, _, rfl, rfl, Nat.le_refl _, fun _ => rfl, fun j s hs => by simp at hs⟩

set_option maxRecDepth 100000 in
/-- A list of bytes, by its cell. -/
theorem trod_bytes {H : Type} {enc : TypeId × Value → H} {W : World} {fuel : Nat} {c : Value} {x : DataW H × List MemPlace} (hf : DataW.trod enc Try.prog W 0 (fun _ => true) true fuel 28 [c] = some x) :
    ∃ xs : List UInt8, Bs W c xs ∧ xs.length ≤ maxLen := by
  rcases open_ints Try.underlying28 Try.underlying5 cellsByte hf with ⟨hcs, _⟩ | ⟨a, len, cap, zs, hcs, _, hl, hm, hz, _, hcell, hws⟩
  · simp only [List.cons.injEq, and_true] at hcs
    subst hcs
    exact ⟨[], Bs.nil W, Nat.zero_le _⟩
  · simp only [List.cons.injEq, and_true] at hcs
    subst hcs
    have hzl : zs.length = cap := by simpa using hz
    have hlen : ((zs.take len).map fun n => UInt8.ofNat n.toNat).length = len := by simp; omega
    refine ⟨(zs.take len).map fun n => UInt8.ofNat n.toNat, ⟨some a, len, cap, rfl, hlen.symm, by rw [hlen]; exact hl, fun e => by (cases e), ?_⟩, by rw [hlen]; omega⟩
    intro ad had j u hu
    obtain rfl := Option.some.inj had
    have hj : j < len := by
      have := (List.getElem?_eq_some_iff.1 hu).1
      rw [bc_len, hlen] at this
      exact this
    rw [hcell j (by omega)]
    have hjz : j < zs.length := by omega
    have hwj := byte_of (hws (zs[j]) (List.getElem_mem hjz))
    have e : (bc ((zs.take len).map fun n => UInt8.ofNat n.toNat))[j]? = some (.int .u8 ((UInt8.ofNat (zs[j]).toNat).toNat : Int)) := by
      simp [bc, List.getElem?_take_of_lt hj, List.getElem?_eq_getElem hjz]
    rw [e] at hu
    rw [← Option.some.inj hu]
    congr 2
    rw [← hwj]
    simp [List.getD, List.getElem?_eq_getElem hjz]

theorem maxLen_le7 : maxLen ≤ 9223372036854775807 := by unfold maxLen; omega

set_option maxRecDepth 100000 in
theorem trod_act {H : Type} {enc : TypeId × Value → H} {W : World} {fuel : Nat} {cs : List Value} {x : DataW H × List MemPlace} (h : DataW.trod enc Try.prog W 0 (fun _ => true) true fuel 44 cs = some x) : ∃ (X : Ac) (bv : Value), cs = acc X bv ∧ AcFit X ∧ Bs W bv X.b := by
  obtain ⟨xs, n, _, rfl, hl, hlen, hf⟩ := DataW.trod_struct Try.underlying44 h
  rw [cellsAct] at hl
  match cs, hl with
  | [c0, c1, c2, c3, c4], _ =>
    match xs, hlen with
    | [y0, y1, y2, y3, y4], _ =>
      have f0 : DataW.trod enc Try.prog W 0 (fun _ => true) true n 3 [c0] = some y0 := by
        have h : DataW.trod enc Try.prog W 0 (fun _ => true) true n 3 ((List.drop 0 [c0, c1, c2, c3, c4]).take (Try.prog.cellsOf 3)) = some y0 := hf 0 _ rfl
        rw [cellsInt] at h
        exact h
      have f1 : DataW.trod enc Try.prog W 0 (fun _ => true) true n 3 [c1] = some y1 := by
        have h : DataW.trod enc Try.prog W 0 (fun _ => true) true n 3 ((List.drop 1 [c0, c1, c2, c3, c4]).take (Try.prog.cellsOf 3)) = some y1 := hf 1 _ rfl
        rw [cellsInt] at h
        exact h
      have f2 : DataW.trod enc Try.prog W 0 (fun _ => true) true n 9 [c2] = some y2 := by
        have h : DataW.trod enc Try.prog W 0 (fun _ => true) true n 9 ((List.drop 2 [c0, c1, c2, c3, c4]).take (Try.prog.cellsOf 9)) = some y2 := hf 2 _ rfl
        rw [cellsString] at h
        exact h
      have f3 : DataW.trod enc Try.prog W 0 (fun _ => true) true n 9 [c3] = some y3 := by
        have h : DataW.trod enc Try.prog W 0 (fun _ => true) true n 9 ((List.drop 3 [c0, c1, c2, c3, c4]).take (Try.prog.cellsOf 9)) = some y3 := hf 3 _ rfl
        rw [cellsString] at h
        exact h
      have f4 : DataW.trod enc Try.prog W 0 (fun _ => true) true n 28 [c4] = some y4 := by
        have h : DataW.trod enc Try.prog W 0 (fun _ => true) true n 28 ((List.drop 4 [c0, c1, c2, c3, c4]).take (Try.prog.cellsOf 28)) = some y4 := hf 4 _ rfl
        rw [cellsRow] at h
        exact h
      obtain ⟨z0, e0, _, w0⟩ := DataW.trod_int Try.underlying3 f0
      obtain ⟨z1, e1, _, w1⟩ := DataW.trod_int Try.underlying3 f1
      obtain ⟨s2, e2, _, w2⟩ := DataW.trod_string Try.underlying9 f2
      obtain ⟨s3, e3, _, w3⟩ := DataW.trod_string Try.underlying9 f3
      obtain ⟨bs, hbs, hbl⟩ := trod_bytes f4
      simp only [List.cons.injEq, and_true] at e0 e1 e2 e3
      subst e0 e1 e2 e3
      have hM := maxLen_le7
      exact ⟨⟨z0, z1, s2, s3, bs⟩, c4, rfl, ⟨bounds_i64 w1, Nat.le_trans w2 hM, Nat.le_trans w3 hM, hbl⟩, hbs⟩

set_option maxRecDepth 100000 in
/-- A list of acts, by its cell. -/
theorem trod_acts {H : Type} {enc : TypeId × Value → H} {W : World} {fuel : Nat} {c : Value} {x : DataW H × List MemPlace} (h : DataW.trod enc Try.prog W 0 (fun _ => true) true fuel 38 [c] = some x) :
    ∃ xs, Acl W c xs ∧ xs.length ≤ maxLen ∧ ∀ x ∈ xs, AcFit x := by
  rcases Deep.open_slice Try.underlying38 h with ⟨hcs, _⟩ | ⟨a, len, cap, m, n, D, Q, hcs, _, hl, hm, hmm, _, hx⟩
  · simp only [List.cons.injEq, and_true] at hcs
    subst hcs
    exact ⟨[], Acl.nil W, Nat.zero_le _, fun _ h => by cases h⟩
  · simp only [List.cons.injEq, and_true] at hcs
    subst hcs
    simp only [if_true] at hmm
    subst hmm
    rw [cellsAct] at hx
    have hall : ∀ i, i < len → ∃ o : Ac × Value, AcFit o.1 ∧ Bs W o.2 o.1.b ∧ ∀ (k : Nat) u, (acc o.1 o.2)[k]? = some u → W.cell? (a.add (i * 5 + k)) = some u := fun i hi => by
      obtain ⟨cs', h1, h2⟩ := hx i (by omega)
      obtain ⟨o, nv, rfl, hfit, hnv⟩ := trod_act h2
      refine ⟨(o, nv), hfit, hnv, fun k u hu => ?_⟩
      obtain ⟨_, hl5, hc⟩ := World.cells?_some h1
      have hk : k < 5 := by
        have := (List.getElem?_eq_some_iff.1 hu).1
        rw [hl5] at this
        exact this
      have := hc k hk
      rw [hu] at this
      rw [← this, Deep.add_add]
    have _inh : Inhabited (Ac × Value) := ⟨⟨⟨0, 0, ⟨#[]⟩, ⟨#[]⟩, []⟩, .slice none 0 0⟩⟩
    obtain ⟨V, hV⟩ := Deep.choose_lt (α := Ac × Value) (n := len) (p := fun i o => AcFit o.1 ∧ Bs W o.2 o.1.b ∧ ∀ (k : Nat) u, (acc o.1 o.2)[k]? = some u → W.cell? (a.add (i * 5 + k)) = some u) hall
    have hln : ((List.range len).map fun i => (V i).1).length = len := by simp
    refine ⟨(List.range len).map fun i => (V i).1, ⟨some a, len, m, rfl, hln.symm, hl, fun e => (by cases e), fun j o ho => ?_⟩, by rw [hln]; omega, fun o ho => ?_⟩
    · have hj : j < len := by
        have := (List.getElem?_eq_some_iff.1 ho).1
        rw [hln] at this
        exact this
      rw [List.getElem?_map, List.getElem?_range hj] at ho
      have ho : (V j).1 = o := Option.some.inj ho
      subst ho
      obtain ⟨b, off, spot⟩ := a
      have hspot : spot = none := by
        have h0 := (hV 0 (by omega)).2.2 0 _ rfl
        have := World.cell?_spot h0
        simpa [Addr.add] using this
      subst hspot
      refine ⟨b, off, (V j).2, rfl, (hV j hj).2.1, fun k u hu => ?_⟩
      have := (hV j hj).2.2 k u hu
      rwa [Addr.add_lit] at this
    · obtain ⟨r, hr, rfl⟩ := List.mem_map.1 ho
      exact (hV r (by simpa using hr)).1

set_option maxRecDepth 100000 in
theorem open_as {H : Type} {enc : TypeId × Value → H} {W : World} {base : Nat} {v : Value} {d : DataW H} {p : List MemPlace} (hval : Value.okWide Try.prog W .any base 38 v) (h : DataW.Trod enc Try.prog W 0 (fun _ => true) true 38 v d p) :
    ∃ xs, Acl W v xs ∧ xs.length ≤ maxLen ∧ ∀ x ∈ xs, AcFit x := by
  obtain ⟨a0, len, cap, rfl⟩ := okWide_slice Try.underlying38 hval
  obtain ⟨fuel, hf⟩ := h
  exact trod_acts hf

end Go.Proofs.Ytphmmdjefpfehaa
