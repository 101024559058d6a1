/- Steps of the reference's Tops: texts that are owned, texts behind them. -/
import Derived.Test.YtjimemnkmpapgaaGreatDoorPlainU
import Derived.Test.YtjimemnkmpapgaaGreatDoorStrs
namespace Go.Proofs.YtjimemnkmpapgaaGreatDoor
open Go.RowKit

/-- What is asked of the reference's Top (lib/PaRTop: refTop_any, refTop_bad). -/
def RefTop : Prop := ∀ (p : ByteArray) (w : World), p.size ≤ maxLen → Calls Tryz.prog 82 #[.string p] w fun e w' => ∃ x : ByteArray, e = .returned (.string x) ∧ x.data.toList = Pl.top p.data.toList ∧ Below w.heap.size w w'

/-- The names that were found. -/
def Tf (w : World) (t : Value) (ts : List ByteArray) : Prop := (t = .slice none 0 0 ∧ ts = []) ∨ ∃ g c, t = .slice (some ⟨g, 0, none⟩) ts.length c ∧ 0 < ts.length ∧ ts.length ≤ c ∧ ∀ (j : Nat) s, ts[j]? = some s → w.cell? ⟨g, j, none⟩ = some (.string s)
theorem Tf.below {w w' : World} {u : Value} {ms : List ByteArray} (h : Tf w u ms) (hb : Below w.heap.size w w') : Tf w' u ms := by
  rcases h with h | ⟨g, c, h1, h0, hc, h2⟩
  · exact Or.inl h
  · exact Or.inr ⟨g, c, h1, h0, hc, fun j s hs => Below.kept hb (h2 j s hs)⟩
theorem Tf.ss {w : World} {u : Value} {ms : List ByteArray} (h : Tf w u ms) : Ss w u ms := by
  rcases h with ⟨rfl, rfl⟩ | ⟨g, c, rfl, h0, hc, h2⟩
  · exact ⟨none, 0, 0, rfl, rfl, fun j s hs => by simp at hs⟩
  · exact ⟨_, _, c, rfl, rfl, fun j s hs => ⟨g, 0, rfl, by rw [Nat.zero_add]; exact h2 j s hs⟩⟩
theorem Tf.own {w : World} {B : Nat} {v : Value} {ts : List ByteArray} (h : w.ownsRow B 9 1 v ts.length (sc ts)) (h0 : 0 < ts.length) : Tf w v ts := by
  have h' := h
  rcases h.2 with ⟨_, h1⟩ | ⟨g, cap, cur, rfl, _, _, hn, _⟩
  · omega
  · refine Or.inr ⟨g, cap, rfl, h0, hn, fun j s hs => ?_⟩
    have hj := (List.getElem?_eq_some_iff.1 hs).1
    rw [h'.cellAt j (by omega)]
    unfold sc
    rw [List.getElem?_map, hs]
    rfl

theorem Tf.first {w : World} {ta : Option Addr} {tl tc : Nat} {ts : List ByteArray} (h : Tf w (.slice ta tl tc) ts) (h0 : 0 < tl) : ∃ g, ta = some ⟨g, 0, none⟩ ∧ ∀ (j : Nat) s, ts[j]? = some s → w.cell? ⟨g, j, none⟩ = some (.string s) := by
  rcases h with ⟨h1, _⟩ | ⟨g, c, h1, _, _, h2⟩
  · simp only [Value.slice.injEq] at h1
    omega
  · simp only [Value.slice.injEq] at h1
    exact ⟨g, h1.1, h2⟩
theorem Tf.cap {w : World} {ta : Option Addr} {tl tc : Nat} {ts : List ByteArray} (h : Tf w (.slice ta tl tc) ts) : tl ≤ tc := by
  rcases h with ⟨h1, _⟩ | ⟨g, c, h1, _, hc, h2⟩
  · simp only [Value.slice.injEq] at h1
    omega
  · simp only [Value.slice.injEq] at h1
    omega
theorem low_more {ts : List ByteArray} {q : Nat} {x y : ByteArray} (h : ∀ (j : Nat) z, j < q → ts[j]? = some z → Op.bytesLess z.toList x.toList = true) (hy : ts[q]? = some y) (hl : Op.bytesLess y.toList x.toList = true) : ∀ (j : Nat) z, j < q + 1 → ts[j]? = some z → Op.bytesLess z.toList x.toList = true := by
  intro j z hj hz
  by_cases h1 : j = q
  · subst h1
    rw [hy] at hz
    obtain rfl := Option.some.inj hz
    exact hl
  · exact h j z (by omega) hz
theorem src_two {wr : World} {g2 q tl tc : Nat} {ts : List ByteArray} (htl : tl = ts.length) (hq : q ≤ tl) (hcl : ∀ (j : Nat) s, ts[j]? = some s → wr.cell? ⟨g2, j, none⟩ = some (.string s)) : Src wr.drew (.slice (some ⟨g2, 0, none⟩) q tc) (ts.take q) ∧ Src wr.drew (.slice (some ⟨g2, q, none⟩) (tl - q) (tc - q)) (ts.drop q) := by
  refine ⟨Or.inr ⟨g2, 0, tc, by rw [List.length_take]; congr 1; omega, fun j s hs => ?_⟩, Or.inr ⟨g2, q, tc - q, by rw [List.length_drop, htl], fun j s hs => ?_⟩⟩
  · have hj := (List.getElem?_eq_some_iff.1 hs).1
    rw [List.length_take] at hj
    rw [List.getElem?_take_of_lt (by omega)] at hs
    rw [Nat.zero_add]
    exact hcl j s hs
  · rw [List.getElem?_drop] at hs
    exact hcl (q + j) s hs
theorem src_none {w : World} {ts : List ByteArray} (h : ts = []) : Src w (.slice none 0 0) (ts.take 0) ∧ Src w (.slice none 0 0) (ts.drop 0) := by
  subst h
  exact ⟨Or.inl ⟨rfl, rfl⟩, Or.inl ⟨rfl, rfl⟩⟩
theorem src_last {wr : World} {g2 q tc : Nat} {ts : List ByteArray} (htl : q = ts.length) (hcl : ∀ (j : Nat) s, ts[j]? = some s → wr.cell? ⟨g2, j, none⟩ = some (.string s)) : Src wr.drew (.slice (some ⟨g2, 0, none⟩) q tc) (ts.take q) ∧ Src wr.drew (.slice (some ⟨g2, q, none⟩) 0 (tc - q)) (ts.drop q) := by
  have h := src_two (tc := tc) htl (Nat.le_refl _) hcl
  rw [Nat.sub_self] at h
  exact h
theorem src_end {wr : World} {g2 tc : Nat} {ts : List ByteArray} (htl : tc = ts.length) (hcl : ∀ (j : Nat) s, ts[j]? = some s → wr.cell? ⟨g2, j, none⟩ = some (.string s)) : Src wr.drew (.slice (some ⟨g2, 0, none⟩) tc tc) (ts.take tc) ∧ Src wr.drew (.slice (some ⟨g2, 0, none⟩) 0 0) (ts.drop tc) := by
  refine ⟨(src_two (tc := tc) htl (Nat.le_refl _) hcl).1, Or.inr ⟨g2, 0, 0, by rw [List.length_drop, htl, Nat.sub_self], fun j s hs => ?_⟩⟩
  have := (List.getElem?_eq_some_iff.1 hs).1
  rw [List.length_drop] at this
  omega
theorem take_more {os : List O} {k : Nat} {o : O} (h : os[k]? = some o) : os.take (k + 1) = os.take k ++ [o] := by
  rw [List.take_add_one, h]
  rfl

end Go.Proofs.YtjimemnkmpapgaaGreatDoor
