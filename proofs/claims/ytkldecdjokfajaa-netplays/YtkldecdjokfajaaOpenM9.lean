/- Arguments that are lists of acts with messages: from what came in to the walks' words. -/
import Derived.Test.YtkldecdjokfajaaOpen9
import Derived.Deep.Slices
import Derived.Deep.Matrix
import Derived.SizedLaws
namespace Go.Proofs.Ytkldecdjokfajaa
open Go.ChangeShapes Go.WideShapes Go.ChangeAt Go.RowKit

theorem cellsMsg : Try.prog.cellsOf 31 = 5 := by kernel_rfl
theorem cellsAct9 : Try.prog.cellsOf 45 = 6 := by kernel_rfl
theorem cellsNums : Try.prog.cellsOf 28 = 1 := by kernel_rfl
theorem cellsRows : Try.prog.cellsOf 29 = 1 := by kernel_rfl
theorem cellsMsgs : Try.prog.cellsOf 43 = 1 := by kernel_rfl

set_option maxRecDepth 100000 in
/-- Numbers, by their cell. -/
theorem trod_nums {H : Type} {enc : TypeId × Value → H} {W : World} {fuel : Nat} {c : Value} {x : DataW H × List MemPlace} (hf : DataW.trod enc Try.prog W 0 (fun _ => true) true fuel 28 [c] = some x) :
    ∃ zs : List Int, Nv W c zs (fun _ => True) ∧ (c = .slice none 0 0 ∨ ∃ ad k c', c = .slice (some ad) k c') ∧ zs.length ≤ maxLen := by
  rcases open_ints Try.underlying28 Try.underlying2 cellsI64 hf with ⟨hcs, _⟩ | ⟨a, len, cap, zs, hcs, _, hl, hm, hz, _, hcell, hws⟩
  · simp only [List.cons.injEq, and_true] at hcs
    subst hcs
    exact ⟨[], Nv.nil _ _, Or.inl rfl, Nat.zero_le _⟩
  · simp only [List.cons.injEq, and_true] at hcs
    subst hcs
    have hzl : zs.length = cap := by simpa using hz
    have hlen : (zs.take len).length = len := by simp; omega
    refine ⟨zs.take len, ?_, Or.inr ⟨_, _, _, rfl⟩, by rw [hlen]; omega⟩
    by_cases h0 : len = 0
    · subst h0
      exact ⟨_, _, _, rfl, by simp, fun j z h => by simp at h⟩
    · obtain ⟨b, o, rfl, hc⟩ := ints_at hcell (by omega)
      refine ⟨some ⟨b, o, none⟩, len, cap, rfl, hlen.symm, fun j z hz => ⟨b, o, rfl, ?_, trivial⟩⟩
      have hj : j < len := by
        have := (List.getElem?_eq_some_iff.1 hz).1
        omega
      rw [hc j (by omega)]
      rw [List.getElem?_take_of_lt hj] at hz
      simp [List.getD, hz]

/-- All that a datum holds is within the form's reach. -/
def Reach9 {H : Type} (t : TypeId) (d : DataW H) : Prop := ∀ n ∈ d.weights Try.prog t, n ≤ reachBytes
theorem weightsAll_mem {H : Type} {P : Program} {e : TypeId} : ∀ {ds : List (DataW H)} {d : DataW H}, d ∈ ds → ∀ n ∈ d.weights P e, n ∈ DataW.weightsAll P e ds
  | d0 :: ds, d, hd, n, hn => by
    simp only [DataW.weightsAll, List.mem_append]
    rcases List.mem_cons.1 hd with rfl | hd
    · exact Or.inl hn
    · exact Or.inr (weightsAll_mem hd n hn)
theorem Reach9.elem {H : Type} {t e : TypeId} {elems spare : List (DataW H)} {d : DataW H} (ht : Try.prog.underlying t = some (.slice e)) (h : Reach9 t (.slice elems spare)) (hd : d ∈ elems) : Reach9 e d := fun n hn => h n (by
  simp only [DataW.weights, ht, List.mem_cons, List.mem_append]
  exact Or.inr (Or.inl (weightsAll_mem hd n hn)))
theorem Reach9.len {H : Type} {t e : TypeId} {elems spare : List (DataW H)} (ht : Try.prog.underlying t = some (.slice e)) (h : Reach9 t (.slice elems spare)) : (elems.length + spare.length) * Try.prog.bytesOf e ≤ reachBytes := h _ (by simp [DataW.weights, ht])
theorem Reach9.field {H : Type} {t f : TypeId} {fs : Array Field} {ps : List (DataW H)} {j : Nat} {d : DataW H} (ht : Try.prog.underlying t = some (.struct fs)) (h : Reach9 t (.agg ps)) (hf : (fs.toList.map (·.type))[j]? = some f) (hd : ps[j]? = some d) : Reach9 f d := fun n hn => h n (by
  simp only [DataW.weights, ht]
  exact DataW.weights_mem_each hf hd n hn)
theorem bytesByte9 : Try.prog.bytesOf 5 = 1 := by kernel_rfl

set_option maxRecDepth 100000 in
/-- Rows of bytes, by their cell. -/
theorem trod_rows {H : Type} {enc : TypeId × Value → H} {W : World} {fuel : Nat} {c : Value} {x : DataW H × List MemPlace} (hf : DataW.trod enc Try.prog W 0 (fun _ => true) true fuel 29 [c] = some x) :
    ∃ ls : List (List UInt8), Bv W c ls (fun _ => True) ∧ (∃ a k c', c = .slice a k c') ∧ ls.length ≤ maxLen ∧ (∀ xs ∈ ls, xs.length ≤ maxLen) ∧ (Reach9 29 x.1 → ∀ xs ∈ ls, xs.length ≤ reachBytes) := by
  rcases Deep.open_int_rows Try.underlying29 Try.underlying66 Try.underlying5 cellsBytes cellsByte hf with ⟨hcs, _⟩ | ⟨a, len, cap, A, L, C, Z, hcs, _, hl, hm, hxe, hr⟩
  · simp only [List.cons.injEq, and_true] at hcs
    subst hcs
    exact ⟨[], Bv.nil _ _, ⟨_, _, _, rfl⟩, Nat.zero_le _, (fun _ h => by cases h), fun _ _ h => by cases h⟩
  · simp only [List.cons.injEq, and_true] at hcs
    subst hcs
    have row : ∀ r, r < cap → Bs W (.slice (A r) (L r) (C r)) (((Z r).take (L r)).map fun n => UInt8.ofNat n.toNat) ∧ L r ≤ maxLen := by
      intro r hrc
      obtain ⟨_, h1, h2, h3, h4, h5, h6⟩ := hr r hrc
      have hlen : (((Z r).take (L r)).map fun n => UInt8.ofNat n.toNat).length = L r := by simp; omega
      refine ⟨⟨A r, L r, C r, rfl, hlen.symm, by rw [hlen]; exact h1, fun e => ⟨by rw [hlen]; have := h5 e; omega, h5 e⟩, fun ad had j u hu => ?_⟩, Nat.le_trans h1 h2⟩
      have hj : j < L r := by
        have := (List.getElem?_eq_some_iff.1 hu).1
        rw [bc_len, hlen] at this
        exact this
      rw [(h6 ad had).2 j (by omega)]
      have hjz : j < (Z r).length := by omega
      have hwj := byte_of (h4 ((Z r)[j]) (List.getElem_mem hjz))
      have e : (bc (((Z r).take (L r)).map fun n => UInt8.ofNat n.toNat))[j]? = some (.int .u8 ((UInt8.ofNat ((Z r)[j]).toNat).toNat : Int)) := by
        simp [bc, List.getElem?_take_of_lt hj, List.getElem?_eq_getElem hjz]
      rw [e] at hu
      rw [← Option.some.inj hu]
      congr 2
      rw [← hwj]
      simp [List.getD, List.getElem?_eq_getElem hjz]
    have hln : ((List.range len).map fun r => ((Z r).take (L r)).map fun n => UInt8.ofNat n.toNat).length = len := by simp
    refine ⟨(List.range len).map fun r => ((Z r).take (L r)).map fun n => UInt8.ofNat n.toNat, ⟨some a, len, cap, rfl, hln.symm, fun j xs hx => ?_⟩, ⟨_, _, _, rfl⟩, by rw [hln]; omega, fun xs hx => ?_, fun hR xs hx => ?_⟩
    · have hj : j < len := by
        have := (List.getElem?_eq_some_iff.1 hx).1
        rw [hln] at this
        exact this
      have hc := (hr j (by omega)).1
      obtain ⟨b, off, spot⟩ := a
      have hspot : spot = none := by
        have := World.cell?_spot (hr 0 (by omega)).1
        simpa [Addr.add] using this
      subst hspot
      have e : xs = ((Z j).take (L j)).map fun n => UInt8.ofNat n.toNat := by
        rw [List.getElem?_map, List.getElem?_range hj] at hx
        exact (Option.some.inj hx).symm
      subst e
      exact ⟨b, off, _, rfl, by rw [← Go.WideShapes.add_plain]; exact hc, (row j (by omega)).1, trivial, fun _ _ _ => trivial⟩
    · obtain ⟨r, hr2, rfl⟩ := List.mem_map.1 hx
      have hrl : r < len := by simpa using hr2
      have := (row r (by omega)).2
      simp
      omega
    · obtain ⟨r, hr2, rfl⟩ := List.mem_map.1 hx
      have hrl : r < len := by simpa using hr2
      rw [hxe] at hR
      have hR2 := hR.elem Try.underlying29 (List.mem_map.2 ⟨r, List.mem_range.2 hrl, rfl⟩)
      have h0 := hr r (by omega)
      cases hA : A r with
      | none =>
        have h1 := h0.2.2.2.2.2.1 hA
        have h2 := h0.2.1
        simp
        omega
      | some ad =>
        rw [hA] at hR2
        have h3 := Reach9.len Try.underlying66 hR2
        rw [bytesByte9] at h3
        simp [lits] at h3 ⊢
        omega

/-- A message's cells. -/
def mcells (m : Nq.Ms) (a b : Value) : List Value := [.int .i64 m.fr, .int .i64 m.to, .int .i64 m.kind, a, b]
/-- A message's parts, as they come in. -/
structure Mpi (W : World) (m : Nq.Ms) (a b : Value) : Prop where
  mp : Mp W m a b (fun _ => True)
  a : a = .slice none 0 0 ∨ ∃ ad k c, a = .slice (some ad) k c
  b : ∃ x k c, b = .slice x k c
  ns : m.ns.length ≤ maxLen
  bs : m.bs.length ≤ maxLen
  rows : ∀ x ∈ m.bs, x.length ≤ maxLen

set_option maxRecDepth 100000 in
theorem trod_msg {H : Type} {enc : TypeId × Value → H} {W : World} {fuel : Nat} {cs : List Value} {x : DataW H × List MemPlace} (h : DataW.trod enc Try.prog W 0 (fun _ => true) true fuel 31 cs = some x) : ∃ m a b, cs = mcells m a b ∧ Mpi W m a b ∧ (Reach9 31 x.1 → ∀ y ∈ m.bs, y.length ≤ reachBytes) := by
  obtain ⟨xs, n, _, rfl, hl, hlen, hf⟩ := DataW.trod_struct Try.underlying31 h
  rw [cellsMsg] at hl
  match cs, hl with
  | [c0, c1, c2, c3, c4], _ =>
    match xs, hlen with
    | [y0, y1, y2, y3, y4], _ =>
      have f0 : DataW.trod enc Try.prog W 0 (fun _ => true) true n 3 [c0] = some y0 := by
        have h : DataW.trod enc Try.prog W 0 (fun _ => true) true n 3 ((List.drop 0 [c0, c1, c2, c3, c4]).take (Try.prog.cellsOf 3)) = some y0 := hf 0 _ rfl
        rw [cellsInt] at h
        exact h
      have f1 : DataW.trod enc Try.prog W 0 (fun _ => true) true n 3 [c1] = some y1 := by
        have h : DataW.trod enc Try.prog W 0 (fun _ => true) true n 3 ((List.drop 1 [c0, c1, c2, c3, c4]).take (Try.prog.cellsOf 3)) = some y1 := hf 1 _ rfl
        rw [cellsInt] at h
        exact h
      have f2 : DataW.trod enc Try.prog W 0 (fun _ => true) true n 3 [c2] = some y2 := by
        have h : DataW.trod enc Try.prog W 0 (fun _ => true) true n 3 ((List.drop 2 [c0, c1, c2, c3, c4]).take (Try.prog.cellsOf 3)) = some y2 := hf 2 _ rfl
        rw [cellsInt] at h
        exact h
      have f3 : DataW.trod enc Try.prog W 0 (fun _ => true) true n 28 [c3] = some y3 := by
        have h : DataW.trod enc Try.prog W 0 (fun _ => true) true n 28 ((List.drop 3 [c0, c1, c2, c3, c4]).take (Try.prog.cellsOf 28)) = some y3 := hf 3 _ rfl
        rw [cellsNums] at h
        exact h
      have f4 : DataW.trod enc Try.prog W 0 (fun _ => true) true n 29 [c4] = some y4 := by
        have h : DataW.trod enc Try.prog W 0 (fun _ => true) true n 29 ((List.drop 4 [c0, c1, c2, c3, c4]).take (Try.prog.cellsOf 29)) = some y4 := hf 4 _ rfl
        rw [cellsRows] at h
        exact h
      obtain ⟨z0, e0, _, w0⟩ := DataW.trod_int Try.underlying3 f0
      obtain ⟨z1, e1, _, w1⟩ := DataW.trod_int Try.underlying3 f1
      obtain ⟨z2, e2, _, w2⟩ := DataW.trod_int Try.underlying3 f2
      obtain ⟨ns, h1, h2, h3⟩ := trod_nums f3
      obtain ⟨bs, h4, h5, h6, h7, h8⟩ := trod_rows f4
      simp only [List.cons.injEq, and_true] at e0 e1 e2
      subst e0 e1 e2
      exact ⟨⟨z0, z1, z2, ns, bs⟩, c3, c4, rfl, ⟨⟨h1, h4⟩, h2, h5, h3, h6, h7⟩, fun hR => h8 (hR.field Try.underlying31 (j := 4) rfl rfl)⟩

/-- Messages in a row, as they come in. -/
def Mls (W : World) (v : Value) (ms : List Nq.Ms) : Prop := ∃ av k c, v = .slice av k c ∧ k = ms.length ∧ (av = none → k = 0) ∧ ∀ (j : Nat) m, ms[j]? = some m → ∃ g o a b, av = some ⟨g, o, none⟩ ∧ Mpi W m a b ∧ ∀ (i : Nat) u, (mcells m a b)[i]? = some u → W.cell? ⟨g, o + (j * 5 + i), none⟩ = some u

set_option maxRecDepth 100000 in
theorem trod_msgs {H : Type} {enc : TypeId × Value → H} {W : World} {fuel : Nat} {c : Value} {x : DataW H × List MemPlace} (h : DataW.trod enc Try.prog W 0 (fun _ => true) true fuel 43 [c] = some x) :
    ∃ ms, Mls W c ms ∧ ms.length ≤ maxLen ∧ (Reach9 43 x.1 → ∀ m ∈ ms, ∀ y ∈ m.bs, y.length ≤ reachBytes) := by
  rcases Deep.open_slice Try.underlying43 h with ⟨hcs, _⟩ | ⟨a, len, cap, m, n, D, Q, hcs, _, hl, hm, hmm, hxe, hx⟩
  · simp only [List.cons.injEq, and_true] at hcs
    subst hcs
    exact ⟨[], ⟨_, _, _, rfl, rfl, fun _ => rfl, fun j m h => by simp at h⟩, Nat.zero_le _, fun _ _ h => by cases h⟩
  · simp only [List.cons.injEq, and_true] at hcs
    subst hcs
    simp only [if_true] at hmm
    subst hmm
    rw [cellsMsg] at hx
    have hall : ∀ i, i < len → ∃ o : Nq.Ms × Value × Value, (Mpi W o.1 o.2.1 o.2.2 ∧ (Reach9 31 (D i) → ∀ y ∈ o.1.bs, y.length ≤ reachBytes)) ∧ ∀ (k : Nat) u, (mcells o.1 o.2.1 o.2.2)[k]? = some u → W.cell? (a.add (i * 5 + k)) = some u := fun i hi => by
      obtain ⟨cs', h1, h2⟩ := hx i (by omega)
      obtain ⟨o, na, nb, rfl, hfit⟩ := trod_msg h2
      refine ⟨(o, na, nb), hfit, fun k u hu => ?_⟩
      obtain ⟨_, hl5, hc⟩ := World.cells?_some h1
      have hk : k < 5 := by
        have := (List.getElem?_eq_some_iff.1 hu).1
        rw [hl5] at this
        exact this
      have := hc k hk
      rw [hu] at this
      rw [← this, Deep.add_add]
    have _inh : Inhabited (Nq.Ms × Value × Value) := ⟨⟨Nq.Ms.zero, .slice none 0 0, .slice none 0 0⟩⟩
    obtain ⟨V, hV⟩ := Deep.choose_lt (α := Nq.Ms × Value × Value) (n := len) (p := fun i o => (Mpi W o.1 o.2.1 o.2.2 ∧ (Reach9 31 (D i) → ∀ y ∈ o.1.bs, y.length ≤ reachBytes)) ∧ ∀ (k : Nat) u, (mcells o.1 o.2.1 o.2.2)[k]? = some u → W.cell? (a.add (i * 5 + k)) = some u) hall
    have hln : ((List.range len).map fun i => (V i).1).length = len := by simp
    refine ⟨(List.range len).map fun i => (V i).1, ⟨some a, len, m, rfl, hln.symm, fun e => (by cases e), fun j o ho => ?_⟩, by rw [hln]; omega, fun hR o ho => ?_⟩
    · have hj : j < len := by
        have := (List.getElem?_eq_some_iff.1 ho).1
        rw [hln] at this
        exact this
      rw [List.getElem?_map, List.getElem?_range hj] at ho
      have ho : (V j).1 = o := Option.some.inj ho
      subst ho
      obtain ⟨b, off, spot⟩ := a
      have hspot : spot = none := by
        have h0 := (hV 0 (by omega)).2 0 _ rfl
        have := World.cell?_spot h0
        simpa [Addr.add] using this
      subst hspot
      refine ⟨b, off, (V j).2.1, (V j).2.2, rfl, (hV j hj).1.1, fun k u hu => ?_⟩
      have := (hV j hj).2 k u hu
      rwa [Addr.add_lit] at this
    · obtain ⟨r, hr, rfl⟩ := List.mem_map.1 ho
      rw [hxe] at hR
      exact (hV r (by simpa using hr)).1.2 (hR.elem Try.underlying43 (List.mem_map.2 ⟨r, hr, rfl⟩))

/-- An act of NetPlays. -/
structure Ac9 where
  op : Int
  k : Int
  a : Int
  b : Int
  lost : Bool
  l : List Nq.Ms
/-- An act's cells. -/
def acc9 (X : Ac9) (lv : Value) : List Value := [.int .i64 X.op, .int .i64 X.k, .int .i64 X.a, .int .i64 X.b, .bool X.lost, lv]

set_option maxRecDepth 100000 in
theorem trod_act9 {H : Type} {enc : TypeId × Value → H} {W : World} {fuel : Nat} {cs : List Value} {x : DataW H × List MemPlace} (h : DataW.trod enc Try.prog W 0 (fun _ => true) true fuel 45 cs = some x) : ∃ X lv, cs = acc9 X lv ∧ (Mls W lv X.l ∧ X.l.length ≤ maxLen) ∧ (Reach9 45 x.1 → ∀ m ∈ X.l, ∀ y ∈ m.bs, y.length ≤ reachBytes) := by
  obtain ⟨xs, n, _, rfl, hl, hlen, hf⟩ := DataW.trod_struct Try.underlying45 h
  rw [cellsAct9] at hl
  match cs, hl with
  | [c0, c1, c2, c3, c4, c5], _ =>
    match xs, hlen with
    | [y0, y1, y2, y3, y4, y5], _ =>
      have f0 : DataW.trod enc Try.prog W 0 (fun _ => true) true n 3 [c0] = some y0 := by
        have h : DataW.trod enc Try.prog W 0 (fun _ => true) true n 3 ((List.drop 0 [c0, c1, c2, c3, c4, c5]).take (Try.prog.cellsOf 3)) = some y0 := hf 0 _ rfl
        rw [cellsInt] at h
        exact h
      have f1 : DataW.trod enc Try.prog W 0 (fun _ => true) true n 3 [c1] = some y1 := by
        have h : DataW.trod enc Try.prog W 0 (fun _ => true) true n 3 ((List.drop 1 [c0, c1, c2, c3, c4, c5]).take (Try.prog.cellsOf 3)) = some y1 := hf 1 _ rfl
        rw [cellsInt] at h
        exact h
      have f2 : DataW.trod enc Try.prog W 0 (fun _ => true) true n 3 [c2] = some y2 := by
        have h : DataW.trod enc Try.prog W 0 (fun _ => true) true n 3 ((List.drop 2 [c0, c1, c2, c3, c4, c5]).take (Try.prog.cellsOf 3)) = some y2 := hf 2 _ rfl
        rw [cellsInt] at h
        exact h
      have f3 : DataW.trod enc Try.prog W 0 (fun _ => true) true n 3 [c3] = some y3 := by
        have h : DataW.trod enc Try.prog W 0 (fun _ => true) true n 3 ((List.drop 3 [c0, c1, c2, c3, c4, c5]).take (Try.prog.cellsOf 3)) = some y3 := hf 3 _ rfl
        rw [cellsInt] at h
        exact h
      have f4 : DataW.trod enc Try.prog W 0 (fun _ => true) true n 4 [c4] = some y4 := by
        have h : DataW.trod enc Try.prog W 0 (fun _ => true) true n 4 ((List.drop 4 [c0, c1, c2, c3, c4, c5]).take (Try.prog.cellsOf 4)) = some y4 := hf 4 _ rfl
        rw [cellsBool] at h
        exact h
      have f5 : DataW.trod enc Try.prog W 0 (fun _ => true) true n 43 [c5] = some y5 := by
        have h : DataW.trod enc Try.prog W 0 (fun _ => true) true n 43 ((List.drop 5 [c0, c1, c2, c3, c4, c5]).take (Try.prog.cellsOf 43)) = some y5 := hf 5 _ rfl
        rw [cellsMsgs] at h
        exact h
      obtain ⟨z0, e0, _, w0⟩ := DataW.trod_int Try.underlying3 f0
      obtain ⟨z1, e1, _, w1⟩ := DataW.trod_int Try.underlying3 f1
      obtain ⟨z2, e2, _, w2⟩ := DataW.trod_int Try.underlying3 f2
      obtain ⟨z3, e3, _, w3⟩ := DataW.trod_int Try.underlying3 f3
      obtain ⟨z4, e4, _⟩ := DataW.trod_bool Try.underlying4 f4
      obtain ⟨ms, h1, h2, h3⟩ := trod_msgs f5
      simp only [List.cons.injEq, and_true] at e0 e1 e2 e3 e4
      subst e0 e1 e2 e3 e4
      exact ⟨⟨z0, z1, z2, z3, z4, ms⟩, c5, rfl, ⟨h1, h2⟩, fun hR => h3 (hR.field Try.underlying45 (j := 5) rfl rfl)⟩

/-- Acts in a row, as they come in. -/
def Acl9 (W : World) (v : Value) (xs : List Ac9) : Prop := ∃ av k c, v = .slice av k c ∧ k = xs.length ∧ (av = none → k = 0) ∧ ∀ (j : Nat) X, xs[j]? = some X → ∃ g o lv, av = some ⟨g, o, none⟩ ∧ Mls W lv X.l ∧ ∀ (i : Nat) u, (acc9 X lv)[i]? = some u → W.cell? ⟨g, o + (j * 6 + i), none⟩ = some u

set_option maxRecDepth 100000 in
theorem trod_acts9 {H : Type} {enc : TypeId × Value → H} {W : World} {fuel : Nat} {c : Value} {x : DataW H × List MemPlace} (h : DataW.trod enc Try.prog W 0 (fun _ => true) true fuel 36 [c] = some x) :
    ∃ xs, Acl9 W c xs ∧ xs.length ≤ maxLen ∧ (∀ X ∈ xs, X.l.length ≤ maxLen) ∧ (Reach9 36 x.1 → ∀ X ∈ xs, ∀ m ∈ X.l, ∀ y ∈ m.bs, y.length ≤ reachBytes) := by
  rcases Deep.open_slice Try.underlying36 h with ⟨hcs, _⟩ | ⟨a, len, cap, m, n, D, Q, hcs, _, hl, hm, hmm, hxe, hx⟩
  · simp only [List.cons.injEq, and_true] at hcs
    subst hcs
    exact ⟨[], ⟨_, _, _, rfl, rfl, fun _ => rfl, fun j m h => by simp at h⟩, Nat.zero_le _, (fun _ h => by cases h), fun _ _ h => by cases h⟩
  · simp only [List.cons.injEq, and_true] at hcs
    subst hcs
    simp only [if_true] at hmm
    subst hmm
    rw [cellsAct9] at hx
    have hall : ∀ i, i < len → ∃ o : Ac9 × Value, ((Mls W o.2 o.1.l ∧ o.1.l.length ≤ maxLen) ∧ (Reach9 45 (D i) → ∀ m ∈ o.1.l, ∀ y ∈ m.bs, y.length ≤ reachBytes)) ∧ ∀ (k : Nat) u, (acc9 o.1 o.2)[k]? = some u → W.cell? (a.add (i * 6 + k)) = some u := fun i hi => by
      obtain ⟨cs', h1, h2⟩ := hx i (by omega)
      obtain ⟨o, lv, rfl, hfit⟩ := trod_act9 h2
      refine ⟨(o, lv), hfit, fun k u hu => ?_⟩
      obtain ⟨_, hl5, hc⟩ := World.cells?_some h1
      have hk : k < 6 := by
        have := (List.getElem?_eq_some_iff.1 hu).1
        rw [hl5] at this
        exact this
      have := hc k hk
      rw [hu] at this
      rw [← this, Deep.add_add]
    have _inh : Inhabited (Ac9 × Value) := ⟨⟨⟨0, 0, 0, 0, false, []⟩, .slice none 0 0⟩⟩
    obtain ⟨V, hV⟩ := Deep.choose_lt (α := Ac9 × Value) (n := len) (p := fun i o => ((Mls W o.2 o.1.l ∧ o.1.l.length ≤ maxLen) ∧ (Reach9 45 (D i) → ∀ m ∈ o.1.l, ∀ y ∈ m.bs, y.length ≤ reachBytes)) ∧ ∀ (k : Nat) u, (acc9 o.1 o.2)[k]? = some u → W.cell? (a.add (i * 6 + k)) = some u) hall
    have hln : ((List.range len).map fun i => (V i).1).length = len := by simp
    refine ⟨(List.range len).map fun i => (V i).1, ⟨some a, len, m, rfl, hln.symm, fun e => (by cases e), fun j o ho => ?_⟩, by rw [hln]; omega, fun o ho => ?_, fun hR o ho => ?_⟩
    · have hj : j < len := by
        have := (List.getElem?_eq_some_iff.1 ho).1
        rw [hln] at this
        exact this
      rw [List.getElem?_map, List.getElem?_range hj] at ho
      have ho : (V j).1 = o := Option.some.inj ho
      subst ho
      obtain ⟨b, off, spot⟩ := a
      have hspot : spot = none := by
        have h0 := (hV 0 (by omega)).2 0 _ rfl
        have := World.cell?_spot h0
        simpa [Addr.add] using this
      subst hspot
      refine ⟨b, off, (V j).2, rfl, (hV j hj).1.1.1, fun k u hu => ?_⟩
      have := (hV j hj).2 k u hu
      rwa [Addr.add_lit] at this
    · obtain ⟨r, hr, rfl⟩ := List.mem_map.1 ho
      exact (hV r (by simpa using hr)).1.1.2
    · obtain ⟨r, hr, rfl⟩ := List.mem_map.1 ho
      rw [hxe] at hR
      exact (hV r (by simpa using hr)).1.2 (hR.elem Try.underlying36 (List.mem_map.2 ⟨r, hr, rfl⟩))

set_option maxRecDepth 100000 in
theorem open_as9 {H : Type} {enc : TypeId × Value → H} {W : World} {base : Nat} {v : Value} {d : DataW H} {p : List MemPlace} (hval : Value.okWide Try.prog W .any base 36 v) (h : DataW.Trod enc Try.prog W 0 (fun _ => true) true 36 v d p) :
    ∃ xs, Acl9 W v xs ∧ xs.length ≤ maxLen ∧ (∀ X ∈ xs, X.l.length ≤ maxLen) ∧ (Reach9 36 d → ∀ X ∈ xs, ∀ m ∈ X.l, ∀ y ∈ m.bs, y.length ≤ reachBytes) := by
  obtain ⟨a0, len, cap, rfl⟩ := okWide_slice Try.underlying36 hval
  obtain ⟨fuel, hf⟩ := h
  exact trod_acts9 hf
end Go.Proofs.Ytkldecdjokfajaa
