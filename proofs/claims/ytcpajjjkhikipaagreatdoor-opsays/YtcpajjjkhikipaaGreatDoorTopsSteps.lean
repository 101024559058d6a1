/- Steps of the reference's Tops: texts that are owned, texts behind them. -/
import Derived.Test.YtcpajjjkhikipaaGreatDoorPlainU
namespace Go.Proofs.YtcpajjjkhikipaaGreatDoor
open Go.RowKit

/-- What is asked of the reference's Top (lib/PaRTop: refTop_any, refTop_bad). -/
def RefTop : Prop := ∀ (p : ByteArray) (w : World), p.size ≤ maxLen → Calls Tryz.prog 39 #[.string p] w fun e w' => ∃ x : ByteArray, e = .returned (.string x) ∧ x.data.toList = Pl.top p.data.toList ∧ Below w.heap.size w w'

theorem infoText : (Tryz.prog.info? 9).map (fun i => (i.zero, i.size, i.bytes)) = some (some (.string ⟨#[]⟩), 1, 16) := by kernel_rfl
def sc (ts : List ByteArray) : List Value := ts.map Value.string
theorem sc_one (xs : List ByteArray) : ∀ u ∈ sc xs, u.oneCell' = true := by
  intro u hu
  obtain ⟨x, _, rfl⟩ := List.mem_map.1 hu
  rfl

/-- Texts that are handed to 'append'. -/
def Src (w : World) (u : Value) (ms : List ByteArray) : Prop := (u = .slice none 0 0 ∧ ms = []) ∨ ∃ g o c, u = .slice (some ⟨g, o, none⟩) ms.length c ∧ ∀ (j : Nat) s, ms[j]? = some s → w.cell? ⟨g, o + j, none⟩ = some (.string s)
theorem Src.below {w w' : World} {u : Value} {ms : List ByteArray} (h : Src w u ms) (hb : Below w.heap.size w w') : Src w' u ms := by
  rcases h with h | ⟨g, o, c, h1, h2⟩
  · exact Or.inl h
  · exact Or.inr ⟨g, o, c, h1, fun j s hs => Below.kept hb (h2 j s hs)⟩

/-- 'append(s, x...)': texts behind what the call owns. -/
theorem append_strs {ops : Array Oper} {rest : List Oper} {o : Oper} {a : Act} {Q : Exit → Act → World → Prop} (hgd : o.guard = none) (s x : Operand)
    (ho : o.op = .call { callee := .builtin .append, args := #[s, x], argTypes := #[35, 35] })
    (B : Nat) (v u : Value) (ls ms : List ByteArray) (w : World) (hs : a.eval s = v) (hx : a.eval x = u) (hown : w.ownsRow B 9 1 v ls.length (sc ls)) (hB : B ≤ w.heap.size) (hb : Src w u ms) (hN : ls.length + ms.length ≤ 3000)
    (h : ∀ v' w', w'.ownsRow B 9 1 v' (ls ++ ms).length (sc (ls ++ ms)) → Below B w w' → wpList Tryz.prog ops Q rest (a.put o.dst v') w') : wpList Tryz.prog ops Q (o :: rest) a w := by
  obtain ⟨i0, hi, hz0, hz1, hz2⟩ := info_parts infoText
  rcases hb with ⟨rfl, rfl⟩ | ⟨g, ob, c, rfl, hcs⟩
  · exact wpList_append_own_none hgd s x 35 ho B 9 i0 1 Tryz.underlying35 hi v ls.length (sc ls) hs hown hx (h _ _ (by simpa using hown) (Below.refl _ w))
  · refine wpList_append_own _ hgd s x 35 ho B 9 i0 (.string ⟨#[]⟩) 1 16 Tryz.underlying35 hi hz0 hz1 hz2 rfl (by decide) v ls.length (sc ls) hs hown ⟨g, ob, none⟩ ms.length c (sc ms) hx (by simp [sc]) ?_ (sc_one ms) (by unfold maxLen; omega) (by omega) hB ?_
    · intro j y hy
      unfold sc at hy
      rw [List.getElem?_map] at hy
      cases he : ms[j]? with
      | none => rw [he] at hy; cases hy
      | some z =>
        rw [he] at hy
        obtain rfl := Option.some.inj hy
        rw [Addr.add_lit]
        exact hcs j z he
    · intro v' w' ho' hg _
      exact h v' w' (by unfold sc at ho' ⊢; rw [List.length_append, List.map_append]; exact ho') ((Below.refl _ w).grown hg hB (fun k hk => (hown.lt k hk).1))

/-- The same, within a drawn region. -/
theorem wp_strs {o : Oper} {a : Act} {K : Act → World → Prop} {Q : Exit → Act → World → Prop} (s x : Operand)
    (ho : o.op = .call { callee := .builtin .append, args := #[s, x], argTypes := #[35, 35] })
    (B : Nat) (v u : Value) (ls ms : List ByteArray) (w : World) (hs : a.eval s = v) (hx : a.eval x = u) (hown : w.ownsRow B 9 1 v ls.length (sc ls)) (hB : B ≤ w.heap.size) (hb : Src w u ms) (hN : ls.length + ms.length ≤ 3000)
    (h : ∀ v' w', w'.ownsRow B 9 1 v' (ls ++ ms).length (sc (ls ++ ms)) → Below B w w' → w.grownBy w' v.ownBlock → K (a.put o.dst v') w') : o.wp Tryz.prog a w K Q := by
  obtain ⟨i0, hi, hz0, hz1, hz2⟩ := info_parts infoText
  rcases hb with ⟨rfl, rfl⟩ | ⟨g, ob, c, rfl, hcs⟩
  · have hrun := run_append_owned_none (P := Tryz.prog) (w := w) B 35 o.type 9 i0 1 Tryz.underlying35 hi v ls.length (sc ls) hown
    have hx2 : a.eval x = .slice none 0 0 := hx
    unfold Oper.wp
    simp [execOp, ho, resolve, invoke, builtin, hs, hx2, hrun, Result.andThen]
    exact h v w (by simpa using hown) (Below.refl _ _) ⟨rfl, rfl, rfl, Nat.le_refl _, fun _ _ _ => rfl⟩
  · refine wp_append_own w s x 35 ho B 9 i0 (.string ⟨#[]⟩) 1 16 Tryz.underlying35 hi hz0 hz1 hz2 rfl (by decide) v ls.length (sc ls) hs hown ⟨g, ob, none⟩ ms.length c (sc ms) hx (by simp [sc]) ?_ (sc_one ms) (by unfold maxLen; omega) (by omega) hB ?_
    · intro j y hy
      unfold sc at hy
      rw [List.getElem?_map] at hy
      cases he : ms[j]? with
      | none => rw [he] at hy; cases hy
      | some z =>
        rw [he] at hy
        obtain rfl := Option.some.inj hy
        rw [Addr.add_lit]
        exact hcs j z he
    · intro v' w' ho' hg _
      exact h v' w' (by unfold sc at ho' ⊢; rw [List.length_append, List.map_append]; exact ho') ((Below.refl _ w).grown hg hB (fun k hk => (hown.lt k hk).1)) hg

theorem Src.one (w : World) (x : ByteArray) (t : TypeId) : Src (w.alloc (.cells #[.string x] t)) (.slice (some ⟨w.heap.size, 0, none⟩) 1 1) [x] := by
  refine Or.inr ⟨w.heap.size, 0, 1, rfl, fun j s hs => ?_⟩
  match j, hs with
  | 0, hs => simp at hs; subst hs; exact cell?_alloc_at _ _ _ _ _ _ rfl
  | (j + 1), hs => simp at hs
theorem Src.grown {w w' : World} {g c : Nat} {x : ByteArray} {row : Option Nat} (h : Src w (.slice (some ⟨g, 0, none⟩) 1 c) [x]) (hg : w.grownBy w' row) (hne : row ≠ some g) : Src w' (.slice (some ⟨g, 0, none⟩) 1 c) [x] := by
  rcases h with ⟨h1, _⟩ | ⟨g', o, c', h1, h2⟩
  · cases h1
  · simp only [Value.slice.injEq, Option.some.injEq, Addr.mk.injEq, and_true] at h1
    obtain ⟨⟨rfl, rfl⟩, _, rfl⟩ := h1
    refine Or.inr ⟨g, 0, c, rfl, fun j s hs => ?_⟩
    have h3 := h2 j s hs
    have hlt := World.block_lt_of_cell? w _ h3
    exact (World.cell?_of_block (hg.block g hlt (fun e => hne e.symm))).trans h3

/-- The names that were found. -/
def Tf (w : World) (t : Value) (ts : List ByteArray) : Prop := (t = .slice none 0 0 ∧ ts = []) ∨ ∃ g c, t = .slice (some ⟨g, 0, none⟩) ts.length c ∧ 0 < ts.length ∧ ts.length ≤ c ∧ ∀ (j : Nat) s, ts[j]? = some s → w.cell? ⟨g, j, none⟩ = some (.string s)
theorem Tf.below {w w' : World} {u : Value} {ms : List ByteArray} (h : Tf w u ms) (hb : Below w.heap.size w w') : Tf w' u ms := by
  rcases h with h | ⟨g, c, h1, h0, hc, h2⟩
  · exact Or.inl h
  · exact Or.inr ⟨g, c, h1, h0, hc, fun j s hs => Below.kept hb (h2 j s hs)⟩
theorem Tf.ss {w : World} {u : Value} {ms : List ByteArray} (h : Tf w u ms) : Ss w u ms := by
  rcases h with ⟨rfl, rfl⟩ | ⟨g, c, rfl, h0, hc, h2⟩
  · exact ⟨none, 0, 0, rfl, rfl, fun j s hs => by simp at hs⟩
  · exact ⟨_, _, c, rfl, rfl, fun j s hs => ⟨g, 0, rfl, by rw [Nat.zero_add]; exact h2 j s hs⟩⟩
theorem Tf.own {w : World} {B : Nat} {v : Value} {ts : List ByteArray} (h : w.ownsRow B 9 1 v ts.length (sc ts)) (h0 : 0 < ts.length) : Tf w v ts := by
  have h' := h
  rcases h.2 with ⟨_, h1⟩ | ⟨g, cap, cur, rfl, _, _, hn, _⟩
  · omega
  · refine Or.inr ⟨g, cap, rfl, h0, hn, fun j s hs => ?_⟩
    have hj := (List.getElem?_eq_some_iff.1 hs).1
    rw [h'.cellAt j (by omega)]
    unfold sc
    rw [List.getElem?_map, hs]
    rfl

theorem Tf.first {w : World} {ta : Option Addr} {tl tc : Nat} {ts : List ByteArray} (h : Tf w (.slice ta tl tc) ts) (h0 : 0 < tl) : ∃ g, ta = some ⟨g, 0, none⟩ ∧ ∀ (j : Nat) s, ts[j]? = some s → w.cell? ⟨g, j, none⟩ = some (.string s) := by
  rcases h with ⟨h1, _⟩ | ⟨g, c, h1, _, _, h2⟩
  · simp only [Value.slice.injEq] at h1
    omega
  · simp only [Value.slice.injEq] at h1
    exact ⟨g, h1.1, h2⟩
theorem Tf.cap {w : World} {ta : Option Addr} {tl tc : Nat} {ts : List ByteArray} (h : Tf w (.slice ta tl tc) ts) : tl ≤ tc := by
  rcases h with ⟨h1, _⟩ | ⟨g, c, h1, _, hc, h2⟩
  · simp only [Value.slice.injEq] at h1
    omega
  · simp only [Value.slice.injEq] at h1
    omega
theorem low_more {ts : List ByteArray} {q : Nat} {x y : ByteArray} (h : ∀ (j : Nat) z, j < q → ts[j]? = some z → Op.bytesLess z.toList x.toList = true) (hy : ts[q]? = some y) (hl : Op.bytesLess y.toList x.toList = true) : ∀ (j : Nat) z, j < q + 1 → ts[j]? = some z → Op.bytesLess z.toList x.toList = true := by
  intro j z hj hz
  by_cases h1 : j = q
  · subst h1
    rw [hy] at hz
    obtain rfl := Option.some.inj hz
    exact hl
  · exact h j z (by omega) hz
theorem src_two {wr : World} {g2 q tl tc : Nat} {ts : List ByteArray} (htl : tl = ts.length) (hq : q ≤ tl) (hcl : ∀ (j : Nat) s, ts[j]? = some s → wr.cell? ⟨g2, j, none⟩ = some (.string s)) : Src wr.drew (.slice (some ⟨g2, 0, none⟩) q tc) (ts.take q) ∧ Src wr.drew (.slice (some ⟨g2, q, none⟩) (tl - q) (tc - q)) (ts.drop q) := by
  refine ⟨Or.inr ⟨g2, 0, tc, by rw [List.length_take]; congr 1; omega, fun j s hs => ?_⟩, Or.inr ⟨g2, q, tc - q, by rw [List.length_drop, htl], fun j s hs => ?_⟩⟩
  · have hj := (List.getElem?_eq_some_iff.1 hs).1
    rw [List.length_take] at hj
    rw [List.getElem?_take_of_lt (by omega)] at hs
    rw [Nat.zero_add]
    exact hcl j s hs
  · rw [List.getElem?_drop] at hs
    exact hcl (q + j) s hs
theorem src_none {w : World} {ts : List ByteArray} (h : ts = []) : Src w (.slice none 0 0) (ts.take 0) ∧ Src w (.slice none 0 0) (ts.drop 0) := by
  subst h
  exact ⟨Or.inl ⟨rfl, rfl⟩, Or.inl ⟨rfl, rfl⟩⟩
theorem src_last {wr : World} {g2 q tc : Nat} {ts : List ByteArray} (htl : q = ts.length) (hcl : ∀ (j : Nat) s, ts[j]? = some s → wr.cell? ⟨g2, j, none⟩ = some (.string s)) : Src wr.drew (.slice (some ⟨g2, 0, none⟩) q tc) (ts.take q) ∧ Src wr.drew (.slice (some ⟨g2, q, none⟩) 0 (tc - q)) (ts.drop q) := by
  have h := src_two (tc := tc) htl (Nat.le_refl _) hcl
  rw [Nat.sub_self] at h
  exact h
theorem src_end {wr : World} {g2 tc : Nat} {ts : List ByteArray} (htl : tc = ts.length) (hcl : ∀ (j : Nat) s, ts[j]? = some s → wr.cell? ⟨g2, j, none⟩ = some (.string s)) : Src wr.drew (.slice (some ⟨g2, 0, none⟩) tc tc) (ts.take tc) ∧ Src wr.drew (.slice (some ⟨g2, 0, none⟩) 0 0) (ts.drop tc) := by
  refine ⟨(src_two (tc := tc) htl (Nat.le_refl _) hcl).1, Or.inr ⟨g2, 0, 0, by rw [List.length_drop, htl, Nat.sub_self], fun j s hs => ?_⟩⟩
  have := (List.getElem?_eq_some_iff.1 hs).1
  rw [List.length_drop] at this
  omega
theorem take_more {os : List O} {k : Nat} {o : O} (h : os[k]? = some o) : os.take (k + 1) = os.take k ++ [o] := by
  rw [List.take_add_one, h]
  rfl

end Go.Proofs.YtcpajjjkhikipaaGreatDoor
