/- How a reply's bytes are read, item by item: plain reckoning. -/
import Derived.Test.YtebmcjhhoionbaaPlainX
namespace Go.Proofs.Ytebmcjhhoionbaa.Rq

/-- Texts are read, till one is not there. -/
def rdN : Nat → List UInt8 → Bool → List ByteArray × List UInt8 × Bool
  | 0, ys, bad => ([], ys, bad)
  | k + 1, ys, bad => if bad then ([], ys, bad) else (⟨(Pk.rT 20000 ys bad).1.toArray⟩ :: (rdN k (Pk.rT 20000 ys bad).2.1 (Pk.rT 20000 ys bad).2.2).1, (rdN k (Pk.rT 20000 ys bad).2.1 (Pk.rT 20000 ys bad).2.2).2)

theorem size_mk (l : List UInt8) : (ByteArray.mk l.toArray).size = l.length := by simp [ByteArray.size]
theorem data_mk (l : List UInt8) : (ByteArray.mk l.toArray).data.toList = l := by simp

theorem rdN_inv : ∀ (k : Nat) (ys : List UInt8) (bad : Bool), (rdN k ys bad).2.2 = false → bad = false ∧ ys = tbytes (rdN k ys bad).1 ++ (rdN k ys bad).2.1 ∧ (rdN k ys bad).1.length = k ∧ ∀ t ∈ (rdN k ys bad).1, t.size ≤ 20000
  | 0, ys, bad, h => ⟨h, by simp [rdN, tbytes], rfl, fun t ht => by simp [rdN] at ht⟩
  | k + 1, ys, bad, h => by
    rw [rdN] at h ⊢
    cases bad with
    | true => simp at h
    | false =>
      simp only [Bool.false_eq_true, if_false] at h ⊢
      obtain ⟨h1, h2, h3, h4⟩ := rdN_inv k _ _ h
      obtain ⟨_, k2, k3⟩ := rT_inv h1
      generalize Pk.rT 20000 ys false = c at *
      refine ⟨trivial, ?_, by rw [List.length_cons, h3], fun t ht => ?_⟩
      · unfold tbytes at h2 ⊢
        rw [List.flatMap_cons, data_mk, List.append_assoc, ← h2]
        exact k2
      · rcases List.mem_cons.1 ht with rfl | ht
        · rw [size_mk]
          omega
        · exact h4 t ht

theorem rdN_len : ∀ (k : Nat) (ys : List UInt8) (bad : Bool), (rdN k ys bad).1.length ≤ k
  | 0, _, _ => Nat.le_refl _
  | k + 1, ys, bad => by
    rw [rdN]
    split
    · simp
    · have := rdN_len k (Pk.rT 20000 ys bad).2.1 (Pk.rT 20000 ys bad).2.2
      simp only [List.length_cons]
      omega

theorem rdN_tbytes : ∀ (ts : List ByteArray) (t : List UInt8), (∀ x ∈ ts, x.size ≤ 20000) → rdN ts.length (tbytes ts ++ t) false = (ts, t, false)
  | [], t, _ => rfl
  | x :: ts, t, h => by
    have hx : x.data.toList.length ≤ 20000 := h x (by simp)
    have e : tbytes (x :: ts) ++ t = Pk.txt x.data.toList ++ (tbytes ts ++ t) := by unfold tbytes; rw [List.flatMap_cons, List.append_assoc]
    rw [e, List.length_cons, rdN, if_neg (by simp), Pk.rT_txt 20000 _ _ false (by omega) (by omega)]
    simp only []
    rw [rdN_tbytes ts t (fun y hy => h y (by simp [hy]))]

/-- One step more of several texts. -/
theorem rdN_step {c k : Nat} {ys y4 : List UInt8} {b4 : Bool} {ts : List ByteArray} (hk : k < c) (h : rdN c y4 b4 = (ts ++ (rdN (c - k) ys false).1, (rdN (c - k) ys false).2)) :
    rdN c y4 b4 = ((ts ++ [⟨(Pk.rT 20000 ys false).1.toArray⟩]) ++ (rdN (c - (k + 1)) (Pk.rT 20000 ys false).2.1 (Pk.rT 20000 ys false).2.2).1, (rdN (c - (k + 1)) (Pk.rT 20000 ys false).2.1 (Pk.rT 20000 ys false).2.2).2) := by
  have e : c - k = (c - (k + 1)) + 1 := by omega
  rw [h, e, rdN, if_neg (by simp)]
  simp

theorem rdN_bad (k : Nat) (ys : List UInt8) : rdN k ys true = ([], ys, true) := by
  cases k with
  | zero => rfl
  | succ k => rw [rdN, if_pos rfl]

/-- The Stat's seven numbers are read. -/
structure Seven where
  made : Int
  changed : Int
  ver : Int
  kids : Int
  owner : Int
  len : Int
  cnt : Int
def rdS (ys : List UInt8) (bad : Bool) : Seven × List UInt8 × Bool :=
  let a := Pk.rI ys bad
  let b := Pk.rI a.2.1 a.2.2
  let c := Pk.rI b.2.1 b.2.2
  let d := Pk.rI c.2.1 c.2.2
  let e := Pk.rI d.2.1 d.2.2
  let f := Pk.rI e.2.1 e.2.2
  let g := Pk.rI f.2.1 f.2.2
  (⟨a.1, b.1, c.1, d.1, e.1, f.1, g.1⟩, g.2.1, g.2.2)

/-- A result is read. -/
def rdX (ys : List UInt8) (bad : Bool) : X × List UInt8 × Bool :=
  let a := Pk.rI ys bad
  let b := Pk.rT 20000 a.2.1 a.2.2
  let c := Pk.rT 20000 b.2.1 b.2.2
  let d := Pk.rC 500 c.2.1 c.2.2
  let e := rdN d.1.toNat d.2.1 d.2.2
  let s := rdS e.2.1 e.2.2
  (⟨a.1, ⟨b.1.toArray⟩, ⟨c.1.toArray⟩, e.1, s.1.made, s.1.changed, s.1.ver, s.1.kids, s.1.owner, s.1.len, s.1.cnt⟩, s.2.1, s.2.2)

theorem rdS_inv {ys : List UInt8} {bad : Bool} (h : (rdS ys bad).2.2 = false) : bad = false ∧ ys = Pk.be8 (rdS ys bad).1.made ++ Pk.be8 (rdS ys bad).1.changed ++ Pk.be8 (rdS ys bad).1.ver ++ Pk.be8 (rdS ys bad).1.kids ++ Pk.be8 (rdS ys bad).1.owner ++ Pk.be8 (rdS ys bad).1.len ++ Pk.be8 (rdS ys bad).1.cnt ++ (rdS ys bad).2.1 := by
  unfold rdS at h ⊢
  simp only [] at h ⊢
  obtain ⟨h7, e7⟩ := rI_inv h
  obtain ⟨h6, e6⟩ := rI_inv h7
  obtain ⟨h5, e5⟩ := rI_inv h6
  obtain ⟨h4, e4⟩ := rI_inv h5
  obtain ⟨h3, e3⟩ := rI_inv h4
  obtain ⟨h2, e2⟩ := rI_inv h3
  obtain ⟨h1, e1⟩ := rI_inv h2
  refine ⟨h1, ?_⟩
  simp only [List.append_assoc]
  rw [← e7, ← e6, ← e5, ← e4, ← e3, ← e2, ← e1]

theorem rdX_inv {ys : List UInt8} {bad : Bool} (h : (rdX ys bad).2.2 = false) : bad = false ∧ ys = xbytes (rdX ys bad).1 ++ (rdX ys bad).2.1 ∧ Small (rdX ys bad).1 := by
  unfold rdX at h ⊢
  simp only [] at h ⊢
  obtain ⟨h6, e6⟩ := rdS_inv h
  obtain ⟨h5, e5, l5, t5⟩ := rdN_inv _ _ _ h6
  obtain ⟨h4, e4, lo4, hi4⟩ := rC_inv h5
  obtain ⟨h3, e3, l3⟩ := rT_inv h4
  obtain ⟨h2, e2, l2⟩ := rT_inv h3
  obtain ⟨h1, e1⟩ := rI_inv h2
  generalize Pk.rI ys bad = a at *
  generalize Pk.rT 20000 a.2.1 a.2.2 = b at *
  generalize Pk.rT 20000 b.2.1 b.2.2 = c at *
  generalize Pk.rC 500 c.2.1 c.2.2 = d at *
  generalize rdN d.1.toNat d.2.1 d.2.2 = e at *
  generalize rdS e.2.1 e.2.2 = s at *
  have hd : ((e.1.length : Nat) : Int) = d.1 := by rw [l5]; omega
  refine ⟨h1, ?_, ⟨by simp only [size_mk]; omega, by simp only [size_mk]; omega, by simp only []; omega, t5⟩⟩
  unfold xbytes sbytes
  simp only [hd]
  simp only [List.append_assoc] at e6 ⊢
  rw [← e6, ← e5, ← e4, ← e3, ← e2, ← e1]

theorem rdS_rng (ys : List UInt8) (bad : Bool) : Rng (rdS ys bad).1.made ∧ Rng (rdS ys bad).1.changed ∧ Rng (rdS ys bad).1.ver ∧ Rng (rdS ys bad).1.kids ∧ Rng (rdS ys bad).1.owner ∧ Rng (rdS ys bad).1.len ∧ Rng (rdS ys bad).1.cnt := by
  unfold rdS
  simp only []
  exact ⟨rI_rng _ _, rI_rng _ _, rI_rng _ _, rI_rng _ _, rI_rng _ _, rI_rng _ _, rI_rng _ _⟩

theorem fit_small {x : X} (h : Small x) (h1 : Rng x.err) (h2 : Rng x.made ∧ Rng x.changed ∧ Rng x.ver ∧ Rng x.kids ∧ Rng x.owner ∧ Rng x.len ∧ Rng x.cnt) : Fit x :=
  ⟨h1, h2.1, h2.2.1, h2.2.2.1, h2.2.2.2.1, h2.2.2.2.2.1, h2.2.2.2.2.2.1, h2.2.2.2.2.2.2, by have := h.path; omega, by have := h.data; omega, by have := h.count; omega, fun t ht => by have := h.texts t ht; omega⟩

theorem rdX_fit {ys : List UInt8} {bad : Bool} (h : (rdX ys bad).2.2 = false) : Fit (rdX ys bad).1 := by
  have h2 := (rdX_inv h).2.2
  clear h
  unfold rdX at h2 ⊢
  simp only [] at h2 ⊢
  refine fit_small h2 ?_ ?_
  · simp only []
    exact rI_rng _ _
  · simp only []
    exact rdS_rng _ _

theorem rdX_xbytes {x : X} (t : List UInt8) (hs : Small x) (hf : Fit x) : rdX (xbytes x ++ t) false = (x, t, false) := by
  obtain ⟨err, path, data, names, made, changed, ver, kids, owner, len, cnt⟩ := x
  have h1 := hs.path
  have h2 := hs.data
  have h3 := hs.count
  have h4 := hs.texts
  obtain ⟨f1, f2, f3, f4, f5, f6, f7, f8, _, _, _, _⟩ := hf
  simp only [] at h1 h2 h3 h4 f1 f2 f3 f4 f5 f6 f7 f8
  have hp : path.data.toList.length ≤ 20000 := h1
  have hd : data.data.toList.length ≤ 20000 := h2
  unfold rdX xbytes sbytes
  simp only [List.append_assoc]
  rw [Pk.rI_be8 err _ false f1.1 f1.2]
  simp only []
  rw [Pk.rT_txt 20000 _ _ false (by omega) (by omega)]
  simp only []
  rw [Pk.rT_txt 20000 _ _ false (by omega) (by omega)]
  simp only []
  rw [Pk.rC_be8 500 (names.length : Int) _ false (by omega) (by omega) (by omega)]
  simp only []
  rw [show ((names.length : Int)).toNat = names.length by omega, rdN_tbytes names _ h4]
  simp only []
  unfold rdS
  simp only []
  rw [Pk.rI_be8 made _ false f2.1 f2.2]
  simp only []
  rw [Pk.rI_be8 changed _ false f3.1 f3.2]
  simp only []
  rw [Pk.rI_be8 ver _ false f4.1 f4.2]
  simp only []
  rw [Pk.rI_be8 kids _ false f5.1 f5.2]
  simp only []
  rw [Pk.rI_be8 owner _ false f6.1 f6.2]
  simp only []
  rw [Pk.rI_be8 len _ false f7.1 f7.2]
  simp only []
  rw [Pk.rI_be8 cnt _ false f8.1 f8.2]

/-- Results are read, till something is not there. -/
def rdXs : Nat → List UInt8 → Bool → List X × List UInt8 × Bool
  | 0, ys, bad => ([], ys, bad)
  | k + 1, ys, bad => if bad then ([], ys, bad) else ((rdX ys bad).1 :: (rdXs k (rdX ys bad).2.1 (rdX ys bad).2.2).1, (rdXs k (rdX ys bad).2.1 (rdX ys bad).2.2).2)

theorem rdXs_inv : ∀ (k : Nat) (ys : List UInt8) (bad : Bool), (rdXs k ys bad).2.2 = false → bad = false ∧ ys = (rdXs k ys bad).1.flatMap xbytes ++ (rdXs k ys bad).2.1 ∧ (rdXs k ys bad).1.length = k ∧ ∀ x ∈ (rdXs k ys bad).1, Small x ∧ Fit x
  | 0, ys, bad, h => ⟨h, by simp [rdXs], rfl, fun t ht => by simp [rdXs] at ht⟩
  | k + 1, ys, bad, h => by
    rw [rdXs] at h ⊢
    cases bad with
    | true => simp at h
    | false =>
      simp only [Bool.false_eq_true, if_false] at h ⊢
      obtain ⟨h1, h2, h3, h4⟩ := rdXs_inv k _ _ h
      obtain ⟨_, k2, k3⟩ := rdX_inv h1
      have k4 := rdX_fit h1
      generalize rdX ys false = c at *
      refine ⟨trivial, ?_, by rw [List.length_cons, h3], fun x hx => ?_⟩
      · rw [List.flatMap_cons, List.append_assoc, ← h2]
        exact k2
      · rcases List.mem_cons.1 hx with rfl | hx
        · exact ⟨k3, k4⟩
        · exact h4 x hx

theorem rdXs_flat : ∀ (xs : List X) (t : List UInt8), (∀ x ∈ xs, Small x ∧ Fit x) → rdXs xs.length (xs.flatMap xbytes ++ t) false = (xs, t, false)
  | [], t, _ => rfl
  | x :: xs, t, h => by
    have hx := h x (by simp)
    have e : (x :: xs).flatMap xbytes ++ t = xbytes x ++ (xs.flatMap xbytes ++ t) := by rw [List.flatMap_cons, List.append_assoc]
    rw [e, List.length_cons, rdXs, if_neg (by simp), rdX_xbytes _ hx.1 hx.2]
    simp only []
    rw [rdXs_flat xs t (fun y hy => h y (by simp [hy]))]

theorem rdXs_step {c k : Nat} {ys y4 : List UInt8} {b4 : Bool} {xs : List X} (hk : k < c) (h : rdXs c y4 b4 = (xs ++ (rdXs (c - k) ys false).1, (rdXs (c - k) ys false).2)) :
    rdXs c y4 b4 = ((xs ++ [(rdX ys false).1]) ++ (rdXs (c - (k + 1)) (rdX ys false).2.1 (rdX ys false).2.2).1, (rdXs (c - (k + 1)) (rdX ys false).2.1 (rdX ys false).2.2).2) := by
  have e : c - k = (c - (k + 1)) + 1 := by omega
  rw [h, e, rdXs, if_neg (by simp)]
  simp

theorem rdXs_bad (k : Nat) (ys : List UInt8) : rdXs k ys true = ([], ys, true) := by
  cases k with
  | zero => rfl
  | succ k => rw [rdXs, if_pos rfl]

/-- The head of a reply is read: its four numbers, and how many results there are. -/
structure Head (b : List UInt8) (num zxid err at_ : Int) (c : Nat) (ys : List UInt8) (bad : Bool) : Prop where
  n1 : num = (Pk.rI b false).1
  n2 : zxid = (Pk.rI (Pk.rI b false).2.1 (Pk.rI b false).2.2).1
  n3 : err = (Pk.rI (Pk.rI (Pk.rI b false).2.1 (Pk.rI b false).2.2).2.1 (Pk.rI (Pk.rI b false).2.1 (Pk.rI b false).2.2).2.2).1
  n4 : at_ = (Pk.rI (Pk.rI (Pk.rI (Pk.rI b false).2.1 (Pk.rI b false).2.2).2.1 (Pk.rI (Pk.rI b false).2.1 (Pk.rI b false).2.2).2.2).2.1 (Pk.rI (Pk.rI (Pk.rI b false).2.1 (Pk.rI b false).2.2).2.1 (Pk.rI (Pk.rI b false).2.1 (Pk.rI b false).2.2).2.2).2.2).1
  n5 : ∃ y5 b5, (y5, b5) = (Pk.rI (Pk.rI (Pk.rI (Pk.rI b false).2.1 (Pk.rI b false).2.2).2.1 (Pk.rI (Pk.rI b false).2.1 (Pk.rI b false).2.2).2.2).2.1 (Pk.rI (Pk.rI (Pk.rI b false).2.1 (Pk.rI b false).2.2).2.1 (Pk.rI (Pk.rI b false).2.1 (Pk.rI b false).2.2).2.2).2.2).2 ∧ (c : Int) = (Pk.rC 16 y5 b5).1 ∧ ys = (Pk.rC 16 y5 b5).2.1 ∧ bad = (Pk.rC 16 y5 b5).2.2

/-- What the reading of a reply's bytes comes to. -/
theorem is_read {b ys : List UInt8} {num zxid err at_ : Int} {c : Nat} {bad : Bool} {r : Rp} (h : Is b r) (he : Head b num zxid err at_ c ys bad) : num = r.num ∧ zxid = r.zxid ∧ err = r.err ∧ at_ = r.at_ ∧ rdXs c ys bad = (r.xs, [], false) := by
  obtain ⟨heq, hf, hfew, hsm⟩ := h
  obtain ⟨n1, n2, n3, n4, y5, b5, n5, n6, n7, n8⟩ := he
  unfold bytes at heq
  simp only [List.append_assoc] at heq
  rw [← heq, Pk.rI_be8 r.num _ false hf.num.1 hf.num.2] at n1 n2 n3 n4 n5
  simp only [] at n1 n2 n3 n4 n5
  rw [Pk.rI_be8 r.zxid _ false hf.zxid.1 hf.zxid.2] at n2 n3 n4 n5
  simp only [] at n2 n3 n4 n5
  rw [Pk.rI_be8 r.err _ false hf.err.1 hf.err.2] at n3 n4 n5
  simp only [] at n3 n4 n5
  rw [Pk.rI_be8 r.at_ _ false hf.at_.1 hf.at_.2] at n4 n5
  simp only [Prod.mk.injEq] at n4 n5
  rw [n5.1, n5.2, Pk.rC_be8 16 (r.xs.length : Int) _ false (by omega) (by omega) (by omega)] at n6 n7 n8
  simp only [] at n6 n7 n8
  refine ⟨n1, n2, n3, n4, ?_⟩
  have hc : c = r.xs.length := by omega
  have hr := rdXs_flat r.xs [] (fun x hx => ⟨hsm x hx, hf.xs x hx⟩)
  rw [List.append_nil] at hr
  rw [hc, n7, n8]
  exact hr

/-- What was read well, and is all, is such a reply. -/
theorem read_is {b ys : List UInt8} {num zxid err at_ : Int} {c : Nat} {bad : Bool} {xs : List X} (he : Head b num zxid err at_ c ys bad) (hr : rdXs c ys bad = (xs, [], false)) : Is b ⟨num, zxid, err, at_, xs⟩ := by
  have hi := rdXs_inv c ys bad (by rw [hr])
  rw [hr] at hi
  simp only [List.append_nil] at hi
  obtain ⟨i1, i2, i3, i4⟩ := hi
  obtain ⟨n1, n2, n3, n4, y5, b5, n5, n6, n7, n8⟩ := he
  rw [n8] at i1
  obtain ⟨h5, e5, lo5, hi5⟩ := rC_inv i1
  have hb5 : b5 = (Pk.rI (Pk.rI (Pk.rI (Pk.rI b false).2.1 (Pk.rI b false).2.2).2.1 (Pk.rI (Pk.rI b false).2.1 (Pk.rI b false).2.2).2.2).2.1 (Pk.rI (Pk.rI (Pk.rI b false).2.1 (Pk.rI b false).2.2).2.1 (Pk.rI (Pk.rI b false).2.1 (Pk.rI b false).2.2).2.2).2.2).2.2 := by rw [← n5]
  have hy5 : y5 = (Pk.rI (Pk.rI (Pk.rI (Pk.rI b false).2.1 (Pk.rI b false).2.2).2.1 (Pk.rI (Pk.rI b false).2.1 (Pk.rI b false).2.2).2.2).2.1 (Pk.rI (Pk.rI (Pk.rI b false).2.1 (Pk.rI b false).2.2).2.1 (Pk.rI (Pk.rI b false).2.1 (Pk.rI b false).2.2).2.2).2.2).2.1 := by rw [← n5]
  rw [hb5] at h5
  obtain ⟨h4, e4⟩ := rI_inv h5
  obtain ⟨h3, e3⟩ := rI_inv h4
  obtain ⟨h2, e2⟩ := rI_inv h3
  obtain ⟨_, e1⟩ := rI_inv h2
  rw [← n6, ← n7, i2] at e5
  rw [← hy5, ← n4] at e4
  rw [← n3] at e3
  rw [← n2] at e2
  rw [← n1] at e1
  refine ⟨?_, ⟨by rw [n1]; exact rI_rng _ _, by rw [n2]; exact rI_rng _ _, by rw [n3]; exact rI_rng _ _, by rw [n4]; exact rI_rng _ _, by simp only []; omega, fun x hx => (i4 x hx).2⟩, by simp only []; omega, fun x hx => (i4 x hx).1⟩
  unfold bytes
  simp only [List.append_assoc]
  rw [i3, ← e5, ← e4, ← e3, ← e2, ← e1]
end Go.Proofs.Ytebmcjhhoionbaa.Rq
