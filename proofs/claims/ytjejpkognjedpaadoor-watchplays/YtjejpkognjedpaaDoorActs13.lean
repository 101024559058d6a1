/- Acts on watches: plainly, and as they come in. -/
import Derived.Test.YtjejpkognjedpaaDoorEk13
namespace Go.Proofs.YtjejpkognjedpaaDoor.Hq
/-- An act. -/
structure Ac where
  op : Int
  sess : Int
  p : ByteArray
  kind : Int
/-- The watch that it arms. -/
def Ac.wt (a : Ac) : Wt := ⟨a.sess, a.kind, a.p⟩
def arms (s : St) (l : List Ac) : St := l.foldl (fun s a => (arm s a.wt).2) s
theorem arms_snoc (s : St) (l : List Ac) (a : Ac) : arms s (l ++ [a]) = (arm (arms s l) a.wt).2 := by unfold arms; rw [List.foldl_append]; rfl
theorem Fine.arms {s : St} (h : Fine s) (l : List Ac) : Fine (arms s l) := by
  induction l generalizing s with
  | nil => exact h
  | cons a l ih => exact ih (h.arm a.wt)
theorem arm_mem {s : St} {x y : Wt} (h : y ∈ (arm s x).2.l) : y = x ∨ y ∈ s.l := by
  unfold arm at h
  split at h
  · split at h
    · exact Or.inr h
    · split at h
      · exact Or.inr h
      · exact ins_mem.1 h
  · exact Or.inr h
theorem arms_mem {s : St} {l : List Ac} {y : Wt} (h : y ∈ (arms s l).l) : y ∈ s.l ∨ ∃ a ∈ l, y.path = a.p := by
  induction l generalizing s with
  | nil => exact Or.inl h
  | cons a l ih =>
    rcases ih (s := (arm s a.wt).2) h with h1 | ⟨b, hb, e⟩
    · rcases arm_mem h1 with rfl | h2
      · exact Or.inr ⟨a, by simp, rfl⟩
      · exact Or.inl h2
    · exact Or.inr ⟨b, by simp [hb], e⟩
theorem arm_len (s : St) (x : Wt) : (arm s x).2.l.length = s.l.length ∨ (arm s x).2.l.length = s.l.length + 1 := by
  unfold arm
  split
  · split
    · exact Or.inl rfl
    · split
      · exact Or.inl rfl
      · exact Or.inr (ins_len _ _)
  · exact Or.inl rfl
def fires (s : St) (l : List Ac) : St := l.foldl (fun s a => fired s a.p 2) s
theorem fires_snoc (s : St) (l : List Ac) (a : Ac) : fires s (l ++ [a]) = fired (fires s l) a.p 2 := by unfold fires; rw [List.foldl_append]; rfl
theorem fired_mem {s : St} {p : ByteArray} {c : Int} {y : Wt} (h : y ∈ (fired s p c).l) : y ∈ s.l ∧ (can p c = true → hears p c y = false) := by
  unfold fired at h
  split at h
  · have := List.mem_filter.1 h
    exact ⟨this.1, fun _ => by simpa using this.2⟩
  · rename_i hc
    exact ⟨h, fun e => absurd e hc⟩
theorem gone_hears {x : Wt} (h : may x = true) : can x.path 2 = true ∧ hears x.path 2 x = true := by
  obtain ⟨h1, h2, h3⟩ := may_iff.1 h
  refine ⟨can_iff.2 ⟨by decide, by decide, h2⟩, ?_⟩
  unfold hears
  simp
theorem fires_mem {s : St} {l : List Ac} {y : Wt} (hs : ∀ x ∈ s.l, may x = true) (h : y ∈ (fires s l).l) : y ∈ s.l ∧ ∀ a ∈ l, y.path ≠ a.p := by
  induction l generalizing s with
  | nil => exact ⟨h, fun a ha => by cases ha⟩
  | cons a l ih =>
    have h1 := ih (s := fired s a.p 2) (fun x hx => hs x (fired_mem hx).1) h
    have h2 := fired_mem h1.1
    refine ⟨h2.1, fun b hb e => ?_⟩
    rcases List.mem_cons.1 hb with rfl | hb
    · have h3 := gone_hears (hs y h2.1)
      rw [e] at h3
      rw [h2.2 h3.1] at h3
      cases h3.2
    · exact h1.2 b hb e
theorem Fine.fires {s : St} (h : Fine s) (l : List Ac) : Fine (fires s l) := by
  induction l generalizing s with
  | nil => exact h
  | cons a l ih => exact ih (h.fired a.p 2)
theorem events_mem {s : St} {p : ByteArray} {c : Int} {e : Wt} (h : e ∈ events s p c) : ∃ x ∈ s.l, e.sess = x.sess := by
  unfold events at h
  split at h
  · obtain ⟨x, hx, rfl⟩ := List.mem_map.1 h
    exact ⟨x, (List.mem_filter.1 hx).1, rfl⟩
  · cases h
theorem up_short {p : ByteArray} (h : Pl.goodB p.data.toList = true) : (up p).size < p.size := by
  have h1 := Pl.good_parts h
  have h2 : Pl.parts p.data.toList ≠ [] := fun e => by
    have := (Pl.namesB_len h1.2.1).1
    rw [e] at this
    simp at this
  have h3 := Pl.of_last h2
  rw [← h1.1] at h3
  have h4 : p.size = p.data.toList.length := Lib.size_eq p
  have h5 : (up p).size = (Pl.parent p.data.toList).length := by
    show (Pl.parent p.data.toList).toArray.size = _
    simp
  have h6 := congrArg List.length h3
  rw [List.length_append, List.length_cons] at h6
  rw [h4, h5]
  show (Pl.of (Pl.parts p.data.toList).dropLast).length < _
  omega
theorem events_told {s : St} {p : ByteArray} {c : Int} {e : Wt} (h : e ∈ events s p c) : (e.kind ≠ 4 ∧ e.path = p ∧ e.kind = c) ∨ (e.kind = 4 ∧ e.path.size < p.size) := by
  unfold events at h
  split at h
  · rename_i hc
    obtain ⟨h1, h3, hg⟩ := can_iff.1 hc
    obtain ⟨x, hx, rfl⟩ := List.mem_map.1 h
    obtain ⟨hx1, hx2⟩ := List.mem_filter.1 hx
    unfold hears at hx2
    unfold told
    simp only []
    by_cases k1 : x.kind = 1
    · rw [if_pos k1] at hx2
      rw [if_pos k1]
      exact Or.inl ⟨by omega, by simpa using hx2, rfl⟩
    · rw [if_neg k1] at hx2
      rw [if_neg k1]
      by_cases kp : x.path = p
      · rw [if_pos kp]
        exact Or.inl ⟨by omega, kp, rfl⟩
      · rw [if_neg kp] at hx2 ⊢
        simp only [Bool.and_eq_true, decide_eq_true_eq] at hx2
        rw [hx2.1]
        exact Or.inr ⟨rfl, up_short hg⟩
  · cases h
end Go.Proofs.YtjejpkognjedpaaDoor.Hq
namespace Go.Proofs.YtjejpkognjedpaaDoor
open Go.RowKit
/-- The four cells of an act. -/
def aac13 (x : Hq.Ac) : List Value := [.int .i64 x.op, .int .i64 x.sess, .string x.p, .int .i64 x.kind]
/-- Acts in a row. -/
def Acl13 (W : World) (v : Value) (xs : List Hq.Ac) : Prop := ∃ av k c, v = .slice av k c ∧ k = xs.length ∧ ∀ (j : Nat) x, xs[j]? = some x → ∃ g o, av = some ⟨g, o, none⟩ ∧ ∀ (i : Nat) u, (aac13 x)[i]? = some u → W.cell? ⟨g, o + j * 4 + i, none⟩ = some u
theorem Acl13.below {w w' : World} {v : Value} {xs : List Hq.Ac} (h : Acl13 w v xs) (hb : Below w.heap.size w w') : Acl13 w' v xs := by
  obtain ⟨av, k, c, hv, hk, hc⟩ := h
  refine ⟨av, k, c, hv, hk, fun j z hz => ?_⟩
  obtain ⟨g, o, ha, hcell⟩ := hc j z hz
  exact ⟨g, o, ha, fun i u hu => Below.kept hb (hcell i u hu)⟩
theorem Acl13.at {w : World} {a : Option Addr} {n c : Nat} {xs : List Hq.Ac} (h : Acl13 w (.slice a n c) xs) {j : Nat} {x : Hq.Ac} (hx : xs[j]? = some x) : ∃ g o, a = some ⟨g, o, none⟩ ∧ w.cell? ⟨g, o + j * 4, none⟩ = some (.int .i64 x.op) ∧ w.cell? ⟨g, o + j * 4 + 1, none⟩ = some (.int .i64 x.sess) ∧ w.cell? ⟨g, o + j * 4 + 2, none⟩ = some (.string x.p) ∧ w.cell? ⟨g, o + j * 4 + 3, none⟩ = some (.int .i64 x.kind) := by
  obtain ⟨av, k, c', hv, hk, hc⟩ := h
  simp only [Value.slice.injEq] at hv
  obtain ⟨rfl, rfl, rfl⟩ := hv
  obtain ⟨g, o, ha, hcell⟩ := hc j x hx
  exact ⟨g, o, ha, hcell 0 _ rfl, hcell 1 _ rfl, hcell 2 _ rfl, hcell 3 _ rfl⟩
/-- A block that lies apart from the watches. -/
structure Kept13 (w : World) (F : Nat → Prop) (k : Nat) (cs : List Value) (t : TypeId) : Prop where
  cb : Cb w k cs t
  off : ¬ F k
theorem Kept13.moved {w w' : World} {F F' : Nat → Prop} {k : Nat} {cs : List Value} {t : TypeId} (h : Kept13 w F k cs t) (hm : Moved w w' F F') : Kept13 w' F' k cs t :=
  ⟨h.cb.keep (hm.block k h.cb.lt h.off), fun e => by
    rcases hm.sub k e with e | e
    · exact h.off e
    · have := h.cb.lt
      omega⟩
theorem Kept13.later {w w' : World} {F : Nat → Prop} {k : Nat} {cs : List Value} {t : TypeId} (h : Kept13 w F k cs t) (hb : Below w.heap.size w w') : Kept13 w' F k cs t := ⟨h.cb.below hb, h.off⟩
theorem Kept13.made (w : World) (F : Nat → Prop) (hF : ∀ k, F k → k < w.heap.size) (cs : List Value) (t : TypeId) : Kept13 (w.alloc (.cells cs.toArray t)) F w.heap.size cs t := ⟨Cb.made w cs t, fun e => by have := hF _ e; omega⟩
/-- An act that an argument may hold. -/
structure AcOk13 (x : Hq.Ac) : Prop where
  p : x.p.size ≤ maxLen
theorem small13 {n : Nat} (h : n ≤ 300) : n ≤ maxLen := by unfold maxLen; omega
end Go.Proofs.YtjejpkognjedpaaDoor
