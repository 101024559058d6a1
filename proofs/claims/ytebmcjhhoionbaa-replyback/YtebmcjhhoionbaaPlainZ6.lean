/- How the landed Get reads a reply's bytes: it goes on where something is not there, and holds what it has against the bytes: plain reckoning. -/
import Derived.Test.YtebmcjhhoionbaaPlainY
namespace Go.Proofs.Ytebmcjhhoionbaa.Rq

/-- Texts are read, as far as they are there. -/
def nxN : Nat → List UInt8 → Bool → List ByteArray × List UInt8 × Bool
  | 0, ys, bad => ([], ys, bad)
  | k + 1, ys, bad => (⟨(Pk.rT 20000 ys bad).1.toArray⟩ :: (nxN k (Pk.rT 20000 ys bad).2.1 (Pk.rT 20000 ys bad).2.2).1, (nxN k (Pk.rT 20000 ys bad).2.1 (Pk.rT 20000 ys bad).2.2).2)

theorem rC_le (m : Int) (hm : 0 ≤ m) (ys : List UInt8) (bad : Bool) : 0 ≤ (Pk.rC m ys bad).1 ∧ (Pk.rC m ys bad).1 ≤ m := by
  refine ⟨Pk.rC_nonneg m ys bad, ?_⟩
  unfold Pk.rC
  split
  · exact hm
  · omega

theorem rT_le (ys : List UInt8) (bad : Bool) : (Pk.rT 20000 ys bad).1.length ≤ 20000 := by
  have h := rC_le 20000 (by decide) ys bad
  unfold Pk.rT
  split
  · simp only [List.length_take]
    omega
  · simp

theorem nxN_len : ∀ (k : Nat) (ys : List UInt8) (bad : Bool), (nxN k ys bad).1.length = k
  | 0, _, _ => rfl
  | k + 1, ys, bad => by
    rw [nxN]
    simp only [List.length_cons]
    rw [nxN_len k]

theorem nxN_small : ∀ (k : Nat) (ys : List UInt8) (bad : Bool), ∀ t ∈ (nxN k ys bad).1, t.size ≤ 20000
  | 0, _, _, t, h => by simp [nxN] at h
  | k + 1, ys, bad, t, h => by
    rw [nxN] at h
    rcases List.mem_cons.1 h with rfl | h
    · rw [size_mk]
      exact rT_le _ _
    · exact nxN_small k _ _ t h

theorem nxN_tbytes : ∀ (ts : List ByteArray) (t : List UInt8), (∀ x ∈ ts, x.size ≤ 20000) → nxN ts.length (tbytes ts ++ t) false = (ts, t, false)
  | [], t, _ => rfl
  | x :: ts, t, h => by
    have hx : x.data.toList.length ≤ 20000 := h x (by simp)
    have e : tbytes (x :: ts) ++ t = Pk.txt x.data.toList ++ (tbytes ts ++ t) := by unfold tbytes; rw [List.flatMap_cons, List.append_assoc]
    rw [e, List.length_cons, nxN, Pk.rT_txt 20000 _ _ false (by omega) (by omega)]
    simp only []
    rw [nxN_tbytes ts t (fun y hy => h y (by simp [hy]))]

theorem nxN_step {c k : Nat} {ys y4 : List UInt8} {b4 bad : Bool} {ts : List ByteArray} (hk : k < c) (h : nxN c y4 b4 = (ts ++ (nxN (c - k) ys bad).1, (nxN (c - k) ys bad).2)) :
    nxN c y4 b4 = ((ts ++ [⟨(Pk.rT 20000 ys bad).1.toArray⟩]) ++ (nxN (c - (k + 1)) (Pk.rT 20000 ys bad).2.1 (Pk.rT 20000 ys bad).2.2).1, (nxN (c - (k + 1)) (Pk.rT 20000 ys bad).2.1 (Pk.rT 20000 ys bad).2.2).2) := by
  have e : c - k = (c - (k + 1)) + 1 := by omega
  rw [h, e, nxN]
  simp

/-- A result is read, as far as it is there. -/
def nxX (ys : List UInt8) (bad : Bool) : X × List UInt8 × Bool :=
  let a := Pk.rI ys bad
  let b := Pk.rT 20000 a.2.1 a.2.2
  let c := Pk.rT 20000 b.2.1 b.2.2
  let d := Pk.rC 500 c.2.1 c.2.2
  let e := nxN d.1.toNat d.2.1 d.2.2
  let s := rdS e.2.1 e.2.2
  (⟨a.1, ⟨b.1.toArray⟩, ⟨c.1.toArray⟩, e.1, s.1.made, s.1.changed, s.1.ver, s.1.kids, s.1.owner, s.1.len, s.1.cnt⟩, s.2.1, s.2.2)

theorem nxX_small (ys : List UInt8) (bad : Bool) : Small (nxX ys bad).1 := by
  unfold nxX
  simp only []
  refine ⟨?_, ?_, ?_, ?_⟩
  · simp only [size_mk]
    exact rT_le _ _
  · simp only [size_mk]
    exact rT_le _ _
  · simp only [nxN_len]
    have h := rC_le 500 (by decide) (Pk.rT 20000 (Pk.rT 20000 (Pk.rI ys bad).2.1 (Pk.rI ys bad).2.2).2.1 (Pk.rT 20000 (Pk.rI ys bad).2.1 (Pk.rI ys bad).2.2).2.2).2.1 (Pk.rT 20000 (Pk.rT 20000 (Pk.rI ys bad).2.1 (Pk.rI ys bad).2.2).2.1 (Pk.rT 20000 (Pk.rI ys bad).2.1 (Pk.rI ys bad).2.2).2.2).2.2
    omega
  · exact nxN_small _ _ _

theorem nxX_fit (ys : List UInt8) (bad : Bool) : Fit (nxX ys bad).1 := by
  have h2 := nxX_small ys bad
  unfold nxX at h2 ⊢
  simp only [] at h2 ⊢
  refine fit_small h2 ?_ ?_
  · simp only []
    exact rI_rng _ _
  · simp only []
    exact rdS_rng _ _

theorem nxX_xbytes {x : X} (t : List UInt8) (hs : Small x) (hf : Fit x) : nxX (xbytes x ++ t) false = (x, t, false) := by
  obtain ⟨err, path, data, names, made, changed, ver, kids, owner, len, cnt⟩ := x
  have h1 := hs.path
  have h2 := hs.data
  have h3 := hs.count
  have h4 := hs.texts
  obtain ⟨f1, f2, f3, f4, f5, f6, f7, f8, _, _, _, _⟩ := hf
  simp only [] at h1 h2 h3 h4 f1 f2 f3 f4 f5 f6 f7 f8
  have hp : path.data.toList.length ≤ 20000 := h1
  have hd : data.data.toList.length ≤ 20000 := h2
  unfold nxX xbytes sbytes
  simp only [List.append_assoc]
  rw [Pk.rI_be8 err _ false f1.1 f1.2]
  simp only []
  rw [Pk.rT_txt 20000 _ _ false (by omega) (by omega)]
  simp only []
  rw [Pk.rT_txt 20000 _ _ false (by omega) (by omega)]
  simp only []
  rw [Pk.rC_be8 500 (names.length : Int) _ false (by omega) (by omega) (by omega)]
  simp only []
  rw [show ((names.length : Int)).toNat = names.length by omega, nxN_tbytes names _ h4]
  simp only []
  unfold rdS
  simp only []
  rw [Pk.rI_be8 made _ false f2.1 f2.2]
  simp only []
  rw [Pk.rI_be8 changed _ false f3.1 f3.2]
  simp only []
  rw [Pk.rI_be8 ver _ false f4.1 f4.2]
  simp only []
  rw [Pk.rI_be8 kids _ false f5.1 f5.2]
  simp only []
  rw [Pk.rI_be8 owner _ false f6.1 f6.2]
  simp only []
  rw [Pk.rI_be8 len _ false f7.1 f7.2]
  simp only []
  rw [Pk.rI_be8 cnt _ false f8.1 f8.2]

/-- Results are read, as far as they are there. -/
def nxXs : Nat → List UInt8 → Bool → List X × List UInt8 × Bool
  | 0, ys, bad => ([], ys, bad)
  | k + 1, ys, bad => ((nxX ys bad).1 :: (nxXs k (nxX ys bad).2.1 (nxX ys bad).2.2).1, (nxXs k (nxX ys bad).2.1 (nxX ys bad).2.2).2)

theorem nxXs_len : ∀ (k : Nat) (ys : List UInt8) (bad : Bool), (nxXs k ys bad).1.length = k
  | 0, _, _ => rfl
  | k + 1, ys, bad => by
    rw [nxXs]
    simp only [List.length_cons]
    rw [nxXs_len k]

theorem nxXs_fit : ∀ (k : Nat) (ys : List UInt8) (bad : Bool), ∀ x ∈ (nxXs k ys bad).1, Small x ∧ Fit x
  | 0, _, _, t, h => by simp [nxXs] at h
  | k + 1, ys, bad, t, h => by
    rw [nxXs] at h
    rcases List.mem_cons.1 h with rfl | h
    · exact ⟨nxX_small _ _, nxX_fit _ _⟩
    · exact nxXs_fit k _ _ t h

theorem nxXs_flat : ∀ (xs : List X) (t : List UInt8), (∀ x ∈ xs, Small x ∧ Fit x) → nxXs xs.length (xs.flatMap xbytes ++ t) false = (xs, t, false)
  | [], t, _ => rfl
  | x :: xs, t, h => by
    have hx := h x (by simp)
    have e : (x :: xs).flatMap xbytes ++ t = xbytes x ++ (xs.flatMap xbytes ++ t) := by rw [List.flatMap_cons, List.append_assoc]
    rw [e, List.length_cons, nxXs, nxX_xbytes _ hx.1 hx.2]
    simp only []
    rw [nxXs_flat xs t (fun y hy => h y (by simp [hy]))]

theorem nxXs_step {c k : Nat} {ys y4 : List UInt8} {b4 bad : Bool} {xs : List X} (hk : k < c) (h : nxXs c y4 b4 = (xs ++ (nxXs (c - k) ys bad).1, (nxXs (c - k) ys bad).2)) :
    nxXs c y4 b4 = ((xs ++ [(nxX ys bad).1]) ++ (nxXs (c - (k + 1)) (nxX ys bad).2.1 (nxX ys bad).2.2).1, (nxXs (c - (k + 1)) (nxX ys bad).2.1 (nxX ys bad).2.2).2) := by
  have e : c - k = (c - (k + 1)) + 1 := by omega
  rw [h, e, nxXs]
  simp

/-- What is read of the bytes of a reply is that reply. -/
theorem is_next {b ys : List UInt8} {num zxid err at_ : Int} {c : Nat} {bad : Bool} {r : Rp} (h : Is b r) (he : Head b num zxid err at_ c ys bad) : r = ⟨num, zxid, err, at_, (nxXs c ys bad).1⟩ := by
  obtain ⟨heq, hf, hfew, hsm⟩ := h
  obtain ⟨n1, n2, n3, n4, y5, b5, n5, n6, n7, n8⟩ := he
  unfold bytes at heq
  simp only [List.append_assoc] at heq
  rw [← heq, Pk.rI_be8 r.num _ false hf.num.1 hf.num.2] at n1 n2 n3 n4 n5
  simp only [] at n1 n2 n3 n4 n5
  rw [Pk.rI_be8 r.zxid _ false hf.zxid.1 hf.zxid.2] at n2 n3 n4 n5
  simp only [] at n2 n3 n4 n5
  rw [Pk.rI_be8 r.err _ false hf.err.1 hf.err.2] at n3 n4 n5
  simp only [] at n3 n4 n5
  rw [Pk.rI_be8 r.at_ _ false hf.at_.1 hf.at_.2] at n4 n5
  simp only [Prod.mk.injEq] at n4 n5
  rw [n5.1, n5.2, Pk.rC_be8 16 (r.xs.length : Int) _ false (by omega) (by omega) (by omega)] at n6 n7 n8
  simp only [] at n6 n7 n8
  have hc : c = r.xs.length := by omega
  have hr := nxXs_flat r.xs [] (fun x hx => ⟨hsm x hx, hf.xs x hx⟩)
  rw [List.append_nil] at hr
  rw [hc, n7, n8, hr, n1, n2, n3, n4]

/-- What was read is a reply of those bytes, if they are its own. -/
theorem next_is {b ys : List UInt8} {num zxid err at_ : Int} {c : Nat} {bad : Bool} (he : Head b num zxid err at_ c ys bad) (hb : bytes ⟨num, zxid, err, at_, (nxXs c ys bad).1⟩ = b) : Is b ⟨num, zxid, err, at_, (nxXs c ys bad).1⟩ := by
  obtain ⟨n1, n2, n3, n4, y5, b5, n5, n6, n7, n8⟩ := he
  have h16 := rC_le 16 (by decide) y5 b5
  refine ⟨hb, ⟨by rw [n1]; exact rI_rng _ _, by rw [n2]; exact rI_rng _ _, by rw [n3]; exact rI_rng _ _, by rw [n4]; exact rI_rng _ _, ?_, fun x hx => (nxXs_fit _ _ _ x hx).2⟩, ?_, fun x hx => (nxXs_fit _ _ _ x hx).1⟩
  · simp only [nxXs_len]
    omega
  · simp only [nxXs_len]
    omega

/-- How many results are read at most. -/
theorem Head.few {b ys : List UInt8} {num zxid err at_ : Int} {c : Nat} {bad : Bool} (he : Head b num zxid err at_ c ys bad) : c ≤ 16 := by
  obtain ⟨n1, n2, n3, n4, y5, b5, n5, n6, n7, n8⟩ := he
  have h16 := rC_le 16 (by decide) y5 b5
  omega

theorem tbytes_small {ts : List ByteArray} (h : ∀ t ∈ ts, t.size ≤ 20000) : (tbytes ts).length ≤ 20008 * ts.length := by
  unfold tbytes
  induction ts with
  | nil => simp
  | cons t ts ih =>
    have h1 := h t (by simp)
    have h2 := ih (fun x hx => h x (by simp [hx]))
    have h3 : t.data.toList.length = t.size := rfl
    have h4 : (Pk.txt t.data.toList).length = 8 + t.size := by unfold Pk.txt; rw [List.length_append, Pk.be8_len, h3]
    rw [List.flatMap_cons, List.length_append, List.length_cons]
    omega
theorem xbytes_small {x : X} (h : Small x) : (xbytes x).length ≤ 10050000 := by
  have h1 := tbytes_small h.texts
  have h2 := h.count
  have h3 := h.path
  have h4 := h.data
  have e1 : x.path.data.toList.length = x.path.size := rfl
  have e2 : x.data.data.toList.length = x.data.size := rfl
  unfold xbytes sbytes Pk.txt
  simp only [List.length_append, Pk.be8_len]
  omega
theorem flat_small {xs : List X} (h : ∀ x ∈ xs, Small x) : (xs.flatMap xbytes).length ≤ 10050000 * xs.length := by
  induction xs with
  | nil => simp
  | cons x xs ih =>
    have h1 := xbytes_small (h x (by simp))
    have h2 := ih (fun y hy => h y (by simp [hy]))
    rw [List.flatMap_cons, List.length_append, List.length_cons]
    omega
end Go.Proofs.Ytebmcjhhoionbaa.Rq
