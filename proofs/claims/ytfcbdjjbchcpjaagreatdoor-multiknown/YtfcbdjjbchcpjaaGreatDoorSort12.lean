/- Purge's order: more names first, alike ones by their texts; what slices.SortFunc makes of it. -/
import Derived.Test.YtfcbdjjbchcpjaaGreatDoorShelf12
import Derived.Test.YtfcbdjjbchcpjaaGreatDoorWpc
import Derived.Sort.OwnSorted
namespace Go.Proofs.YtfcbdjjbchcpjaaGreatDoor
open Go.RowKit Go.Sort

theorem cmp_less : ∀ (a b : List UInt8), Lib.compareBytes a b < 0 ↔ Op.bytesLess a b = true
  | [], [] => by simp [Lib.compareBytes, Op.bytesLess]
  | [], _ :: _ => by simp [Lib.compareBytes, Op.bytesLess]
  | _ :: _, [] => by simp [Lib.compareBytes, Op.bytesLess]
  | a :: x, b :: y => by
    have ih := cmp_less x y
    unfold Lib.compareBytes
    simp only [Op.bytesLess, Bool.or_eq_true, decide_eq_true_eq, Bool.and_eq_true, beq_iff_eq]
    by_cases h1 : a < b
    · rw [if_pos h1]
      simp [h1]
    · rw [if_neg h1]
      by_cases h2 : b < a
      · rw [if_pos h2]
        constructor
        · intro h
          exact absurd h (by decide)
        · rintro (h | ⟨rfl, _⟩)
          · exact absurd h h1
          · exact absurd h2 (UInt8.lt_irrefl _)
      · rw [if_neg h2, ih]
        have e : a = b := UInt8.le_antisymm (UInt8.not_lt.1 h2) (UInt8.not_lt.1 h1)
        simp [e]
/-- How many names. -/
def dep (l : List UInt8) : Nat := Lib.countByte l 47
/-- Is it ahead? -/
def deepB (x y : List UInt8) : Bool := decide (dep y < dep x) || (decide (dep y = dep x) && Op.bytesLess x y)
theorem deep_iff {x y : List UInt8} : deepB x y = true ↔ dep y < dep x ∨ (dep y = dep x ∧ Op.bytesLess x y = true) := by unfold deepB; simp
theorem deep_irrefl (x : List UInt8) : deepB x x = false := by unfold deepB; simp [Kq.less_irrefl]
theorem deep_trans {x y z : List UInt8} (h : deepB x y = true) (k : deepB y z = true) : deepB x z = true := by
  rw [deep_iff] at h k ⊢
  rcases h with h | ⟨h1, h2⟩
  · rcases k with k | ⟨k1, k2⟩
    · exact Or.inl (by omega)
    · exact Or.inl (by omega)
  · rcases k with k | ⟨k1, k2⟩
    · exact Or.inl (by omega)
    · exact Or.inr ⟨by omega, Kq.less_trans h2 k2⟩
theorem deep_total {x y : List UInt8} (h : deepB x y = false) (k : deepB y x = false) : x = y := by
  have h1 : ¬ (dep y < dep x ∨ (dep y = dep x ∧ Op.bytesLess x y = true)) := fun e => by rw [deep_iff.2 e] at h; cases h
  have k1 : ¬ (dep x < dep y ∨ (dep x = dep y ∧ Op.bytesLess y x = true)) := fun e => by rw [deep_iff.2 e] at k; cases k
  have e : dep x = dep y := by omega
  refine Kq.less_total ?_ ?_
  · cases hb : Op.bytesLess x y with
    | false => rfl
    | true => exact absurd (Or.inr ⟨e.symm, hb⟩) h1
  · cases hb : Op.bytesLess y x with
    | false => rfl
    | true => exact absurd (Or.inr ⟨e, hb⟩) k1
theorem deep_swo {x y z : List UInt8} (h : deepB x y = false) (k : deepB y z = false) : deepB x z = false := by
  cases hz : deepB x z with
  | false => rfl
  | true =>
    cases h1 : deepB y x with
    | false => rw [deep_total h h1, k] at hz; cases hz
    | true => rw [deep_trans h1 hz] at k; cases k

/-- What deepFirst tells. -/
def cfT (a b : List UInt8) : Int := if ((dep b : Int) - (dep a : Int)) = 0 then Lib.compareBytes a b else (dep b : Int) - (dep a : Int)
theorem cfT_deep (a b : List UInt8) : decide (cfT a b < 0) = deepB a b := by
  unfold cfT deepB
  by_cases h : ((dep b : Int) - (dep a : Int)) = 0
  · have e : dep b = dep a := by omega
    rw [if_pos h, e]
    simp [cmp_less]
  · have e : ¬ dep b = dep a := by omega
    rw [if_neg h]
    by_cases h2 : dep b < dep a
    · have h3 : (dep b : Int) - (dep a : Int) < 0 := by omega
      simp [h2, h3]
    · have h3 : ¬ ((dep b : Int) - (dep a : Int) < 0) := by omega
      simp [h2, h3, e]

set_option maxRecDepth 20000 in
set_option maxHeartbeats 1000000 in
theorem depth_any12 (x : ByteArray) (w : World) : Calls Tryz.prog 116 #[.string x] w fun e w' => e = .returned (.int .i64 (dep x.data.toList : Int)) ∧ w' = w := by
  go_enter Tryz.func116, Tryz.ntmps116
  go_wp2_with fail
  refine (Tryz.strings_Count_one x 47 w).mono ?_
  rintro e w' ⟨rfl, hw⟩
  rw [hw]
  clear hw w'
  go_wp2
  go_ret
  exact ⟨rfl, rfl⟩
theorem dep_le (x : List UInt8) : dep x ≤ x.length := List.count_le_length

set_option maxRecDepth 20000 in
set_option maxHeartbeats 2000000 in
theorem deepFirst_any12 (x y : ByteArray) (w : World) (hx : x.data.toList.length ≤ 1000) (hy : y.data.toList.length ≤ 1000) : Calls Tryz.prog 83 #[.string x, .string y] w fun e w' => e = .returned (.int .i64 (cfT x.data.toList y.data.toList)) ∧ w' = w := by
  obtain ⟨a, ha⟩ : ∃ a, a = dep x.data.toList := ⟨_, rfl⟩
  obtain ⟨b, hb⟩ : ∃ b, b = dep y.data.toList := ⟨_, rfl⟩
  have h1 := dep_le x.data.toList
  have h2 := dep_le y.data.toList
  have hA : a ≤ 1000 := by omega
  have hB : b ≤ 1000 := by omega
  have HD : Hid (cfT x.data.toList y.data.toList = if ((b : Int) - (a : Int)) = 0 then Lib.compareBytes x.data.toList y.data.toList else (b : Int) - (a : Int)) := by
    have e : cfT x.data.toList y.data.toList = if ((b : Int) - (a : Int)) = 0 then Lib.compareBytes x.data.toList y.data.toList else (b : Int) - (a : Int) := by rw [ha, hb]; rfl
    exact e
  have HX : Hid (Calls Tryz.prog 116 #[.string x] w fun e w' => e = .returned (.int .i64 (a : Int)) ∧ w' = w) := by
    have h := depth_any12 x w
    rw [← ha] at h
    exact h
  have HY : Hid (Calls Tryz.prog 116 #[.string y] w fun e w' => e = .returned (.int .i64 (b : Int)) ∧ w' = w) := by
    have h := depth_any12 y w
    rw [← hb] at h
    exact h
  have hwr : IntKind.wrap .i64 ((b : Int) - (a : Int)) = (b : Int) - (a : Int) := by rw [IntKind.wrap_i64]; omega
  clear h1 h2 hx hy ha hb
  go_enter Tryz.func83, Tryz.ntmps83
  go_wp2_with fail
  refine HY.out.mono ?_
  rintro e w' ⟨rfl, hw⟩
  rw [hw]
  clear hw w'
  go_wp2_with fail
  refine HX.out.mono ?_
  rintro e w' ⟨rfl, hw⟩
  rw [hw]
  clear hw w'
  obtain ⟨d, hd⟩ : ∃ d, d = (b : Int) - (a : Int) := ⟨_, rfl⟩
  rw [← hd] at HD hwr
  by_cases hz : d = 0
  · have HZ : Hid (cfT x.data.toList y.data.toList = Lib.compareBytes x.data.toList y.data.toList) := by
      have e : cfT x.data.toList y.data.toList = Lib.compareBytes x.data.toList y.data.toList := by rw [HD.out, if_pos hz]
      exact e
    have hab : (b : Int) - (a : Int) = 0 := by omega
    clear hd hwr
    go_wp2_with fail
    refine (Tryz.strings_Compare x y w).mono ?_
    rintro e w' ⟨rfl, hw⟩
    rw [hw]
    clear hw w'
    go_wp2
    go_ret
    exact ⟨by rw [HZ.out]; rfl, rfl⟩
  · have HZ : Hid (cfT x.data.toList y.data.toList = (b : Int) - (a : Int)) := by
      have e : cfT x.data.toList y.data.toList = (b : Int) - (a : Int) := by rw [HD.out, if_neg hz, hd]
      exact e
    have hab : (((b : Int) - (a : Int)) != 0) = true := by rw [← hd]; simp [hz]
    rw [hd] at hwr
    clear hd hz
    go_wp2
    go_ret
    exact ⟨by rw [HZ.out]; rfl, rfl⟩

/-- Texts that a path may be. -/
abbrev P12 := { l : List UInt8 // l.length ≤ 1000 }
abbrev P12.some_ : Inhabited P12 := ⟨⟨[], by decide⟩⟩
theorem at12 (d : List P12) (j : Nat) (hj : j < d.length) : (@getElem! (Array P12) Nat P12 (fun xs i => i < xs.size) _ P12.some_ d.toArray j) = d[j] := by
  have h := @getElem!_pos (Array P12) Nat P12 (fun xs i => i < xs.size) _ _ P12.some_ d.toArray j (by simpa using hj)
  rw [h]
  simp
theorem swo12 : SWO (ltOf fun x y : P12 => cfT x.1 y.1) := by
  have e : ∀ x y : P12, ltOf (fun x y : P12 => cfT x.1 y.1) x y = deepB x.1 y.1 := fun x y => cfT_deep x.1 y.1
  refine ⟨fun x => ?_, fun x y z h k => ?_, fun x y z h k => ?_⟩
  · rw [e]
    exact deep_irrefl _
  · rw [e] at h k ⊢
    exact deep_trans h k
  · rw [e] at h k ⊢
    exact deep_swo h k
theorem putCells12 (d : List P12) (off : Nat) (c : Array Value) : @putCells P12 P12.some_ (fun x => encStr x.1) off d.toArray c = putCells encStr off (d.map (·.1)).toArray c := by
  unfold putCells
  apply Array.ext
  · simp
  · intro i h1 h2
    simp only [Array.getElem_mapIdx, List.size_toArray, List.length_map]
    by_cases hi : off ≤ i ∧ i < off + d.length
    · rw [if_pos hi, if_pos hi]
      have hj : i - off < d.length := by omega
      rw [at12 d (i - off) hj, getElem!_pos (d.map (·.1)).toArray (i - off) (by simpa using hj)]
      simp
    · rw [if_neg hi, if_neg hi]
set_option maxHeartbeats 1000000 in
theorem sortf12 (g cap : Nat) (ss : List (List UInt8)) (w : World) (hss : ∀ s ∈ ss, s.length ≤ 1000) (hH : Holds encStr w g 0 ss.toArray) (hg : g < w.heap.size) (hn : ss.length ≤ 100000) :
    Calls Tryz.prog 82 #[.slice (some ⟨g, 0, none⟩) ss.length cap, .func (.func 83) #[] #[]] w fun e w' => e = .returned (.tuple #[]) ∧ ∃ n os ts, w' = grow (putRow encStr (Sort.ahead w n) g 0 ts.toArray) os ∧ List.Perm ts ss ∧ ts.Pairwise (fun x y => deepB y x = false) := by
  obtain ⟨d, hd⟩ : ∃ d : List P12, d.map (·.1) = ss := ⟨ss.attach.map fun s => ⟨s.1, hss s.1 s.2⟩, by rw [List.map_map]; exact List.attach_map_subtype_val ss⟩
  have hlen : d.length = ss.length := by rw [← hd, List.length_map]
  have hH2 : @Holds P12 P12.some_ (fun x => encStr x.1) w g 0 d.toArray := by
    intro j hj
    have h := hH j (by rw [List.size_toArray, ← hlen]; simpa using hj)
    have hj2 : j < d.length := by simpa using hj
    rw [at12 d j hj2]
    rw [getElem!_pos ss.toArray j (by rw [List.size_toArray, ← hlen]; exact hj2)] at h
    have e : ss[j]'(by omega) = (d[j]).1 := by
      have h2 : (d.map (·.1))[j]'(by rw [List.length_map]; exact hj2) = (d[j]).1 := List.getElem_map ..
      rw [← h2]
      congr 1
      exact hd.symm
    simp only [List.getElem_toArray] at h ⊢
    rw [e] at h
    exact h
  have hcmp : @CmpLays1 P12 P12.some_ Tryz.prog 83 #[] (fun x => encStr x.1) (fun x y => cfT x.1 y.1) g 0 d.toArray.size w := fun m os dk _ x y => by
    refine (deepFirst_any12 ⟨x.1.toArray⟩ ⟨y.1.toArray⟩ _ (by simpa using x.2) (by simpa using y.2)).mono ?_
    rintro e w' ⟨rfl, hw⟩
    exact ⟨by simp, 0, #[], by rw [hw]; simp [World.drewN]⟩
  have key := @Tryz.slices_SortFunc_total P12 P12.some_ (fun x => encStr x.1) (fun x => rfl) (fun x y => cfT x.1 y.1) swo12 83 #[] g 0 cap d.toArray w (enters_of Tryz.func83 (by kernel_rfl) rfl) hcmp hH2 hg (by rw [List.size_toArray]; omega) (fun x y h k => by
    have e : ∀ x y : P12, ltOf (fun x y : P12 => cfT x.1 y.1) x y = deepB x.1 y.1 := fun x y => cfT_deep x.1 y.1
    rw [e] at h k
    exact Subtype.ext (deep_total h k))
  rw [List.size_toArray, hlen] at key
  refine key.mono ?_
  rintro e w' ⟨rfl, n, os, rfl⟩
  obtain ⟨M, hM⟩ : ∃ M : List P12, M = d.mergeSort (fun x y => !(ltOf (fun x y : P12 => cfT x.1 y.1)) y x) := ⟨_, rfl⟩
  refine ⟨rfl, n, os, M.map (·.1), ?_, ?_, ?_⟩
  · rw [← hM]
    unfold sortWorld putRow
    rw [show (@putCells P12 P12.some_ (fun x => encStr x.1) 0 M.toArray) = putCells encStr 0 (M.map (·.1)).toArray from funext fun c => putCells12 M 0 c]
  · rw [← hd, hM]
    exact (List.mergeSort_perm d _).map _
  · rw [List.pairwise_map, hM]
    have e : ∀ x y : P12, ltOf (fun x y : P12 => cfT x.1 y.1) x y = deepB x.1 y.1 := fun x y => cfT_deep x.1 y.1
    refine (List.pairwise_mergeSort (le := fun x y => !(ltOf (fun x y : P12 => cfT x.1 y.1)) y x) (fun a b c h1 h2 => ?_) (fun a b => ?_) d).imp (fun {a b} h => ?_)
    · rw [e] at h1 h2 ⊢
      simp only [Bool.not_eq_true'] at h1 h2 ⊢
      exact deep_swo h2 h1
    · rw [e, e]
      cases h1 : deepB b.1 a.1 with
      | false => rfl
      | true =>
        cases h2 : deepB a.1 b.1 with
        | false => rfl
        | true => have h3 := deep_trans h1 h2; rw [deep_irrefl] at h3; cases h3
    · rw [e] at h
      simpa using h
end Go.Proofs.YtfcbdjjbchcpjaaGreatDoor
