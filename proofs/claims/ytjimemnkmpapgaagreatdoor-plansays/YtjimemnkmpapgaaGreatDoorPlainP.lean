/- Requests in bytes, and back: plain reckoning. -/
import Derived.Test.YtjimemnkmpapgaaGreatDoorPlainO
namespace Go.Proofs.YtjimemnkmpapgaaGreatDoor.Oq

/-- A number of 64 bits. -/
def Rng (z : Int) : Prop := -9223372036854775808 ≤ z ∧ z ≤ 9223372036854775807
/-- An Op of such numbers, and of texts that are not too long. -/
def Fine (o : O) : Prop := Rng o.kind ∧ Rng o.ver ∧ Rng o.flags ∧ o.path.size ≤ 1000000 ∧ o.data.size ≤ 1000000

theorem be8_app {z z' : Int} {t t' : List UInt8} (h : Pk.be8 z ++ t = Pk.be8 z' ++ t') (hz : Rng z) (hz' : Rng z') : z = z' ∧ t = t' := by
  obtain ⟨h1, h2⟩ := List.append_inj h (by rw [Pk.be8_len, Pk.be8_len])
  exact ⟨Pk.be8_inj hz.1 (by have := hz.2; omega) hz'.1 (by have := hz'.2; omega) h1, h2⟩

theorem txt_app {l l' t t' : List UInt8} (h : Pk.txt l ++ t = Pk.txt l' ++ t') (hl : l.length ≤ 1000000) (hl' : l'.length ≤ 1000000) : l = l' ∧ t = t' := by
  unfold Pk.txt at h
  rw [List.append_assoc, List.append_assoc] at h
  obtain ⟨h1, h2⟩ := be8_app h ⟨by omega, by omega⟩ ⟨by omega, by omega⟩
  exact List.append_inj h2 (by omega)

theorem bytes_ext {a b : ByteArray} (h : a.data.toList = b.data.toList) : a = b := by
  obtain ⟨⟨x⟩⟩ := a
  obtain ⟨⟨y⟩⟩ := b
  have : x = y := h
  rw [this]

theorem obytes_app {o o' : O} {t t' : List UInt8} (h : obytes o ++ t = obytes o' ++ t') (ho : Fine o) (ho' : Fine o') : o = o' ∧ t = t' := by
  obtain ⟨K, p, d, V, F⟩ := o
  obtain ⟨K', p', d', V', F'⟩ := o'
  unfold obytes at h
  simp only [List.append_assoc] at h
  obtain ⟨r1, r2, r3, r4, r5⟩ := ho
  obtain ⟨q1, q2, q3, q4, q5⟩ := ho'
  obtain ⟨e1, h1⟩ := be8_app h r1 q1
  obtain ⟨e2, h2⟩ := txt_app h1 (by exact r4) (by exact q4)
  obtain ⟨e3, h3⟩ := txt_app h2 (by exact r5) (by exact q5)
  obtain ⟨e4, h4⟩ := be8_app h3 r2 q2
  obtain ⟨e5, h5⟩ := be8_app h4 r3 q3
  subst e1 e4 e5
  rw [bytes_ext e2, bytes_ext e3]
  exact ⟨rfl, h5⟩

theorem flat_inj : ∀ {os os' : List O}, os.length = os'.length → (∀ o ∈ os, Fine o) → (∀ o ∈ os', Fine o) → os.flatMap obytes = os'.flatMap obytes → os = os'
  | [], [], _, _, _, _ => rfl
  | o :: os, o' :: os', hl, hf, hf', h => by
    rw [List.flatMap_cons, List.flatMap_cons] at h
    obtain ⟨rfl, h2⟩ := obytes_app h (hf o (by simp)) (hf' o' (by simp))
    rw [flat_inj (by simpa using hl) (fun x hx => hf x (by simp [hx])) (fun x hx => hf' x (by simp [hx])) h2]

/-- Unlike requests have unlike bytes. -/
theorem bytes_inj {s n s' n' : Int} {os os' : List O} (h : bytes s n os = bytes s' n' os') (hs : Rng s) (hn : Rng n) (hs' : Rng s') (hn' : Rng n') (hl : os.length ≤ 1000000) (hl' : os'.length ≤ 1000000) (hf : ∀ o ∈ os, Fine o) (hf' : ∀ o ∈ os', Fine o) : s = s' ∧ n = n' ∧ os = os' := by
  unfold bytes at h
  simp only [List.append_assoc] at h
  obtain ⟨e1, h⟩ := be8_app h hs hs'
  obtain ⟨e2, h⟩ := be8_app h hn hn'
  obtain ⟨e3, h⟩ := be8_app h ⟨by omega, by omega⟩ ⟨by omega, by omega⟩
  exact ⟨e1, e2, flat_inj (by omega) hf hf' h⟩

/-- An Op is read. -/
def rdO (ys : List UInt8) (bad : Bool) : O × List UInt8 × Bool :=
  let a := Pk.rI ys bad
  let b := Pk.rT 200 a.2.1 a.2.2
  let c := Pk.rT 1000 b.2.1 b.2.2
  let d := Pk.rI c.2.1 c.2.2
  let e := Pk.rI d.2.1 d.2.2
  (⟨a.1, ⟨b.1.toArray⟩, ⟨c.1.toArray⟩, d.1, e.1⟩, e.2.1, e.2.2)

theorem rdO_obytes {o : O} (t : List UInt8) (bad : Bool) (hf : Fine o) (hp : o.path.size ≤ 200) (hd : o.data.size ≤ 1000) : rdO (obytes o ++ t) bad = (o, t, bad) := by
  obtain ⟨K, p, d, V, F⟩ := o
  obtain ⟨r1, r2, r3, r4, r5⟩ := hf
  have hp' : p.data.toList.length ≤ 200 := hp
  have hd' : d.data.toList.length ≤ 1000 := hd
  unfold rdO obytes
  simp only [List.append_assoc]
  rw [Pk.rI_be8 K _ bad r1.1 r1.2]
  simp only []
  rw [Pk.rT_txt 200 _ _ bad (by omega) (by omega)]
  simp only []
  rw [Pk.rT_txt 1000 _ _ bad (by omega) (by omega)]
  simp only []
  rw [Pk.rI_be8 V _ bad r2.1 r2.2]
  simp only []
  rw [Pk.rI_be8 F _ bad r3.1 r3.2]

/-- Several are read, till something is not there. -/
def rdL : Nat → List UInt8 → Bool → List O × List UInt8 × Bool
  | 0, ys, bad => ([], ys, bad)
  | k + 1, ys, bad => if bad then ([], ys, bad) else ((rdO ys bad).1 :: (rdL k (rdO ys bad).2.1 (rdO ys bad).2.2).1, (rdL k (rdO ys bad).2.1 (rdO ys bad).2.2).2)

theorem rdL_flat : ∀ (os : List O) (t : List UInt8), (∀ o ∈ os, Fine o ∧ o.path.size ≤ 200 ∧ o.data.size ≤ 1000) → rdL os.length (os.flatMap obytes ++ t) false = (os, t, false)
  | [], t, _ => rfl
  | o :: os, t, h => by
    have h1 := h o (by simp)
    have e : (o :: os).flatMap obytes ++ t = obytes o ++ (os.flatMap obytes ++ t) := by rw [List.flatMap_cons, List.append_assoc]
    rw [e, List.length_cons, rdL, if_neg (by simp), rdO_obytes _ _ h1.1 h1.2.1 h1.2.2]
    simp only []
    rw [rdL_flat os t (fun x hx => h x (by simp [hx]))]
end Go.Proofs.YtjimemnkmpapgaaGreatDoor.Oq
