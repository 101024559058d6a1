/- How the program reads a request's bytes: plain reckoning. -/
import Derived.Test.YtcpajjjkhikipaaGreatDoorWNext
namespace Go.Proofs.YtcpajjjkhikipaaGreatDoor

/-- Several are read, as the program reads them: whatever is there. -/
def Oq.rdL2 : Nat → List UInt8 → Bool → List O × List UInt8 × Bool
  | 0, ys, bad => ([], ys, bad)
  | k + 1, ys, bad => ((Oq.rdO2 ys bad).1 :: (Oq.rdL2 k (Oq.rdO2 ys bad).2.1 (Oq.rdO2 ys bad).2.2).1, (Oq.rdL2 k (Oq.rdO2 ys bad).2.1 (Oq.rdO2 ys bad).2.2).2)

/-- One that may be has such numbers. -/
theorem good_range {o : O} (h : Oq.good o = 0) : 1 ≤ o.kind ∧ o.kind ≤ 7 ∧ 0 ≤ o.flags ∧ o.flags ≤ 3 := by
  cases hh : Oq.headB o with
  | true =>
    rw [Oq.good_head hh] at h
    cases h
  | false =>
    obtain ⟨h1, h2, _, _, h3, h4⟩ := Oq.head_no hh
    exact ⟨h1, h2, h3, h4⟩

theorem may_ranges {s n : Int} {os : List O} (h : Oq.may s n os = 0) : ∀ o ∈ os, Oq.good o = 0 := by
  unfold Oq.may at h
  split at h
  · cases h
  · split at h
    · cases h
    · split at h
      · rename_i h1 h2 h3
        exact absurd h h3
      · rename_i h1 h2 h3
        exact firstBad_none (Decidable.not_not.1 h3)

theorem rdO2_obytes {o : O} (t : List UInt8) (hf : Oq.Fine o) (hg : Oq.good o = 0) : Oq.rdO2 (Oq.obytes o ++ t) false = (o, t, false) := by
  have hs := good_sizes hg
  have hr := good_range hg
  obtain ⟨K, p, d, V, F⟩ := o
  obtain ⟨r1, r2, r3, r4, r5⟩ := hf
  simp only [] at hs hr
  have hp' : p.data.toList.length ≤ 200 := hs.1
  have hd' : d.data.toList.length ≤ 1000 := hs.2
  unfold Oq.rdO2 Oq.obytes
  simp only [List.append_assoc]
  rw [Pk.rC_be8 7 K _ false (by omega) (by omega) (by omega)]
  simp only []
  rw [Pk.rT_txt 200 _ _ false (by omega) (by omega)]
  simp only []
  rw [Pk.rT_txt 1000 _ _ false (by omega) (by omega)]
  simp only []
  rw [Pk.rI_be8 V _ false r2.1 r2.2]
  simp only []
  rw [Pk.rC_be8 3 F _ false (by omega) (by omega) (by omega)]

theorem rdL2_flat : ∀ (os : List O) (t : List UInt8), (∀ o ∈ os, Oq.Fine o ∧ Oq.good o = 0) → Oq.rdL2 os.length (os.flatMap Oq.obytes ++ t) false = (os, t, false)
  | [], t, _ => rfl
  | o :: os, t, h => by
    have h1 := h o (by simp)
    have e : (o :: os).flatMap Oq.obytes ++ t = Oq.obytes o ++ (os.flatMap Oq.obytes ++ t) := by rw [List.flatMap_cons, List.append_assoc]
    rw [e, List.length_cons, Oq.rdL2, rdO2_obytes _ h1.1 h1.2]
    simp only []
    rw [rdL2_flat os t (fun x hx => h x (by simp [hx]))]

theorem rdO2_fine (ys : List UInt8) (bad : Bool) : Oq.Fine (Oq.rdO2 ys bad).1 ∧ (Oq.rdO2 ys bad).1.path.size ≤ 200 ∧ (Oq.rdO2 ys bad).1.data.size ≤ 1000 := by
  unfold Oq.rdO2
  simp only []
  have h0 := rC_max 7 ys bad (by decide)
  have h0' := Pk.rC_nonneg 7 ys bad
  have h1 := rT_max 200 (Pk.rC 7 ys bad).2.1 (Pk.rC 7 ys bad).2.2 (by decide)
  have h2 := rT_max 1000 (Pk.rT 200 (Pk.rC 7 ys bad).2.1 (Pk.rC 7 ys bad).2.2).2.1 (Pk.rT 200 (Pk.rC 7 ys bad).2.1 (Pk.rC 7 ys bad).2.2).2.2 (by decide)
  generalize Pk.rT 1000 (Pk.rT 200 (Pk.rC 7 ys bad).2.1 (Pk.rC 7 ys bad).2.2).2.1 (Pk.rT 200 (Pk.rC 7 ys bad).2.1 (Pk.rC 7 ys bad).2.2).2.2 = c at *
  have h3 := rC_max 3 (Pk.rI c.2.1 c.2.2).2.1 (Pk.rI c.2.1 c.2.2).2.2 (by decide)
  have h3' := Pk.rC_nonneg 3 (Pk.rI c.2.1 c.2.2).2.1 (Pk.rI c.2.1 c.2.2).2.2
  have e1 : ∀ l : List UInt8, (ByteArray.mk l.toArray).size = l.length := fun l => by simp [ByteArray.size]
  refine ⟨⟨⟨by simp only []; omega, by simp only []; omega⟩, rI_rng _ _, ⟨by simp only []; omega, by simp only []; omega⟩, ?_, ?_⟩, ?_, ?_⟩ <;> simp only [e1] <;> omega

theorem rdL2_fine : ∀ (k : Nat) (ys : List UInt8) (bad : Bool) (o : O), o ∈ (Oq.rdL2 k ys bad).1 → Oq.Fine o ∧ o.path.size ≤ 200 ∧ o.data.size ≤ 1000
  | 0, _, _, o, h => by simp [Oq.rdL2] at h
  | k + 1, ys, bad, o, h => by
    rw [Oq.rdL2] at h
    rcases List.mem_cons.1 h with rfl | h
    · exact rdO2_fine _ _
    · exact rdL2_fine k _ _ o h

theorem fit_of {o : O} (h : Oq.Fine o ∧ o.path.size ≤ 200 ∧ o.data.size ≤ 1000) : Fit o :=
  ⟨h.1.1, by unfold maxLen; omega, by unfold maxLen; omega, h.1.2.1, h.1.2.2.1⟩

/-- One step more of several. -/
theorem rdL2_step {c k : Nat} {ys y4 : List UInt8} {bad b4 : Bool} {os : List O} (hk : k < c) (h : Oq.rdL2 c y4 b4 = (os ++ (Oq.rdL2 (c - k) ys bad).1, (Oq.rdL2 (c - k) ys bad).2)) :
    Oq.rdL2 c y4 b4 = ((os ++ [(Oq.rdO2 ys bad).1]) ++ (Oq.rdL2 (c - (k + 1)) (Oq.rdO2 ys bad).2.1 (Oq.rdO2 ys bad).2.2).1, (Oq.rdL2 (c - (k + 1)) (Oq.rdO2 ys bad).2.1 (Oq.rdO2 ys bad).2.2).2) := by
  have e : c - k = (c - (k + 1)) + 1 := by omega
  rw [h, e, Oq.rdL2]
  simp

/-- What the reading of a request's bytes comes to. -/
theorem is_read2 {b y2 y3 y4 : List UInt8} {b2 b3 b4 : Bool} {s n s' n' : Int} {c : Nat} {os' : List O} (h : Is b s' n' os')
    (he : (s = (Pk.rI b false).1 ∧ y2 = (Pk.rI b false).2.1 ∧ b2 = (Pk.rI b false).2.2) ∧ (n = (Pk.rI y2 b2).1 ∧ y3 = (Pk.rI y2 b2).2.1 ∧ b3 = (Pk.rI y2 b2).2.2) ∧ ((c : Int) = (Pk.rC 16 y3 b3).1 ∧ y4 = (Pk.rC 16 y3 b3).2.1 ∧ b4 = (Pk.rC 16 y3 b3).2.2)) :
    s = s' ∧ n = n' ∧ Oq.rdL2 c y4 b4 = (os', [], false) := by
  obtain ⟨hm, hb, hs, hn, hf⟩ := h
  have hz := may_sizes hm
  obtain ⟨⟨e1, e2, e3⟩, ⟨e4, e5, e6⟩, ⟨e7, e8, e9⟩⟩ := he
  rw [← hb] at e1 e2 e3
  unfold Oq.bytes at e1 e2 e3
  simp only [List.append_assoc] at e1 e2 e3
  rw [Pk.rI_be8 s' _ false hs.1 hs.2] at e1 e2 e3
  simp only [] at e1 e2 e3
  rw [e2, e3, Pk.rI_be8 n' _ false hn.1 hn.2] at e4 e5 e6
  simp only [] at e4 e5 e6
  have hc : Pk.rC 16 y3 b3 = ((os'.length : Int), os'.flatMap Oq.obytes, false) := by
    unfold Pk.rC
    rw [e5, e6, Pk.rI_be8 _ _ false (by omega) (by omega)]
    simp only []
    rw [if_neg (by omega)]
  rw [hc] at e7 e8 e9
  simp only [] at e7 e8 e9
  have hcl : c = os'.length := by omega
  have hr := rdL2_flat os' [] (fun o ho => ⟨hf o ho, may_ranges hm o ho⟩)
  rw [List.append_nil] at hr
  exact ⟨e1, e4, by rw [hcl, e8, e9]; exact hr⟩

/-- What was read, and is all, and is written so again, is a request that may be. -/
theorem read_is {b y2 y3 y4 : List UInt8} {b2 b3 b4 : Bool} {s n : Int} {c : Nat} {os : List O}
    (he : (s = (Pk.rI b false).1 ∧ y2 = (Pk.rI b false).2.1 ∧ b2 = (Pk.rI b false).2.2) ∧ (n = (Pk.rI y2 b2).1 ∧ y3 = (Pk.rI y2 b2).2.1 ∧ b3 = (Pk.rI y2 b2).2.2) ∧ ((c : Int) = (Pk.rC 16 y3 b3).1 ∧ y4 = (Pk.rC 16 y3 b3).2.1 ∧ b4 = (Pk.rC 16 y3 b3).2.2))
    (hr : Oq.rdL2 c y4 b4 = (os, [], false)) (hp : Oq.put s n os = b) : Is b s n os := by
  have hm : Oq.may s n os = 0 := by
    apply Classical.byContradiction
    intro hne
    unfold Oq.put at hp
    rw [if_neg hne] at hp
    subst hp
    obtain ⟨⟨_, e2, e3⟩, ⟨_, e5, e6⟩, ⟨e7, e8, e9⟩⟩ := he
    have h0 : ∀ bad, Pk.rI [] bad = (0, [], true) := fun bad => by unfold Pk.rI; simp
    rw [h0] at e2 e3
    simp only [] at e2 e3
    rw [e2, h0] at e5 e6
    simp only [] at e5 e6
    have h1 : Pk.rC 16 [] b3 = (0, [], true) := by unfold Pk.rC; rw [h0]; simp
    rw [e5, h1] at e7 e8 e9
    simp only [] at e7 e8 e9
    have hc : c = 0 := by omega
    rw [hc, e9] at hr
    simp [Oq.rdL2] at hr
  unfold Oq.put at hp
  rw [if_pos hm] at hp
  obtain ⟨⟨e1, _, _⟩, ⟨e4, _, _⟩, _⟩ := he
  refine ⟨hm, hp, by rw [e1]; exact rI_rng _ _, by rw [e4]; exact rI_rng _ _, fun o ho => ?_⟩
  have h2 : o ∈ (Oq.rdL2 c y4 b4).1 := by rw [hr]; exact ho
  exact (rdL2_fine _ _ _ o h2).1
end Go.Proofs.YtcpajjjkhikipaaGreatDoor
