/- Results and lists of them, wherever they lie; what the statements' own 'heavy' answers. -/
import Derived.Test.YtebmcjhhoionbaaBase
import Derived.Test.YtebmcjhhoionbaaPlainX
import Derived.BigRegion
import Derived.Deep.QuietTactic
import Derived.BigQuiet
import Derived.Deep.RegionWith
namespace Go.Proofs.Ytebmcjhhoionbaa
open Go.RowKit

/-- A result's cells; its Names lie elsewhere. -/
def xc (x : X) (nv : Value) : List Value := [.int .i64 x.err, .string x.path, .string x.data, nv, .int .i64 x.made, .int .i64 x.changed, .int .i64 x.ver, .int .i64 x.kids, .int .i64 x.owner, .int .i64 x.len, .int .i64 x.cnt]

/-- A value is a slice of texts, with what room it has. -/
def Sq (w : World) (u : Value) (ss : List ByteArray) : Prop := ∃ av k c, u = .slice av k c ∧ k = ss.length ∧ k ≤ c ∧ (av = none → c = 0) ∧ ∀ (j : Nat) s, ss[j]? = some s → ∃ g o, av = some ⟨g, o, none⟩ ∧ w.cell? ⟨g, o + j, none⟩ = some (.string s)

theorem Sq.below {w w' : World} {v : Value} {ss : List ByteArray} (h : Sq w v ss) (hb : Below w.heap.size w w') : Sq w' v ss := by
  obtain ⟨av, k, c, hv, hk, hc, hn, hs⟩ := h
  refine ⟨av, k, c, hv, hk, hc, hn, fun j s hs2 => ?_⟩
  obtain ⟨g, o, ha, hcell⟩ := hs j s hs2
  exact ⟨g, o, ha, Below.kept hb hcell⟩

theorem Sq.ss {w : World} {v : Value} {ss : List ByteArray} (h : Sq w v ss) : Ss w v ss := by
  obtain ⟨av, k, c, hv, hk, _, _, hs⟩ := h
  exact ⟨av, k, c, hv, hk, hs⟩

theorem Sq.nil (w : World) : Sq w (.slice none 0 0) [] := ⟨_, _, _, rfl, rfl, Nat.le_refl _, fun _ => rfl, fun j s hs => by simp at hs⟩

/-- Texts that are there lie at a plain address. -/
theorem Sq.at {w : World} {v : Value} {ss : List ByteArray} (h : Sq w v ss) (h0 : 0 < ss.length) : ∃ g o c, v = .slice (some ⟨g, o, none⟩) ss.length c ∧ ss.length ≤ c ∧ ∀ (j : Nat) s, ss[j]? = some s → w.cell? ⟨g, o + j, none⟩ = some (.string s) := by
  obtain ⟨av, k, c, rfl, hk, hkc, hn, hc⟩ := h
  obtain ⟨g, o, rfl, _⟩ := hc 0 ss[0] (List.getElem?_eq_getElem h0)
  refine ⟨g, o, c, by rw [hk], by omega, fun j s hs => ?_⟩
  obtain ⟨g', o', e, h1⟩ := hc j s hs
  simp only [Option.some.injEq, Addr.mk.injEq, and_true] at e
  obtain ⟨rfl, rfl⟩ := e
  exact h1

/-- A value is a slice of results. -/
def Rl (w : World) (v : Value) (xs : List X) : Prop := ∃ av k c, v = .slice av k c ∧ k = xs.length ∧ k ≤ c ∧ (av = none → c = 0) ∧ ∀ (j : Nat) x, xs[j]? = some x → ∃ g b nv, av = some ⟨g, b, none⟩ ∧ Sq w nv x.names ∧ ∀ (i : Nat) u, (xc x nv)[i]? = some u → w.cell? ⟨g, b + (j * 11 + i), none⟩ = some u

theorem Rl.below {w w' : World} {v : Value} {xs : List X} (h : Rl w v xs) (hb : Below w.heap.size w w') : Rl w' v xs := by
  obtain ⟨av, k, c, hv, hk, hc, hn, hs⟩ := h
  refine ⟨av, k, c, hv, hk, hc, hn, fun j x hx => ?_⟩
  obtain ⟨g, b, nv, ha, hnv, hcell⟩ := hs j x hx
  exact ⟨g, b, nv, ha, hnv.below hb, fun i u hu => Below.kept hb (hcell i u hu)⟩

theorem Rl.nil (w : World) : Rl w (.slice none 0 0) [] := ⟨_, _, _, rfl, rfl, Nat.le_refl _, fun _ => rfl, fun j s hs => by simp at hs⟩

/-- The eleven cells of a result at a place. -/
structure At11 (w : World) (g b : Nat) (x : X) (nv : Value) : Prop where
  c0 : w.cell? ⟨g, b, none⟩ = some (.int .i64 x.err)
  c1 : w.cell? ⟨g, b + 1, none⟩ = some (.string x.path)
  c2 : w.cell? ⟨g, b + 2, none⟩ = some (.string x.data)
  c3 : w.cell? ⟨g, b + 3, none⟩ = some nv
  c4 : w.cell? ⟨g, b + 4, none⟩ = some (.int .i64 x.made)
  c5 : w.cell? ⟨g, b + 5, none⟩ = some (.int .i64 x.changed)
  c6 : w.cell? ⟨g, b + 6, none⟩ = some (.int .i64 x.ver)
  c7 : w.cell? ⟨g, b + 7, none⟩ = some (.int .i64 x.kids)
  c8 : w.cell? ⟨g, b + 8, none⟩ = some (.int .i64 x.owner)
  c9 : w.cell? ⟨g, b + 9, none⟩ = some (.int .i64 x.len)
  c10 : w.cell? ⟨g, b + 10, none⟩ = some (.int .i64 x.cnt)

theorem At11.of {w : World} {g b : Nat} {x : X} {nv : Value} (h : ∀ (i : Nat) u, (xc x nv)[i]? = some u → w.cell? ⟨g, b + i, none⟩ = some u) : At11 w g b x nv :=
  ⟨h 0 _ rfl, h 1 _ rfl, h 2 _ rfl, h 3 _ rfl, h 4 _ rfl, h 5 _ rfl, h 6 _ rfl, h 7 _ rfl, h 8 _ rfl, h 9 _ rfl, h 10 _ rfl⟩

theorem At11.below {w w' : World} {g b : Nat} {x : X} {nv : Value} (h : At11 w g b x nv) (hb : Below w.heap.size w w') : At11 w' g b x nv :=
  ⟨Below.kept hb h.c0, Below.kept hb h.c1, Below.kept hb h.c2, Below.kept hb h.c3, Below.kept hb h.c4, Below.kept hb h.c5, Below.kept hb h.c6, Below.kept hb h.c7, Below.kept hb h.c8, Below.kept hb h.c9, Below.kept hb h.c10⟩

theorem Rl.at {w : World} {v : Value} {xs : List X} (h : Rl w v xs) (h0 : 0 < xs.length) : ∃ g b c, v = .slice (some ⟨g, b, none⟩) xs.length c ∧ xs.length ≤ c ∧ ∀ (j : Nat) x, xs[j]? = some x → ∃ nv, Sq w nv x.names ∧ At11 w g (b + j * 11) x nv := by
  obtain ⟨av, k, c, rfl, hk, hc, hn, hs⟩ := h
  obtain ⟨g, b, nv, rfl, _⟩ := hs 0 xs[0] (List.getElem?_eq_getElem h0)
  refine ⟨g, b, c, by rw [hk], by omega, fun j x hx => ?_⟩
  obtain ⟨g', b', nv', e, hnv, hcell⟩ := hs j x hx
  simp only [Option.some.injEq, Addr.mk.injEq, and_true] at e
  obtain ⟨rfl, rfl⟩ := e
  exact ⟨nv', hnv, At11.of fun i u hu => by have := hcell i u hu; rw [← Nat.add_assoc] at this; exact this⟩

/-- Is one text too long? -/
def longB (ts : List ByteArray) : Bool := ts.any fun t => decide (100 < t.size)
/-- Is a result more than is asked of? -/
def heavyX (x : X) : Bool := decide (300 < x.path.size) || decide (300 < x.data.size) || decide (40 < x.names.length) || longB x.names
/-- Is a list of results? -/
def heavyB (xs : List X) : Bool := decide (20 < xs.length) || xs.any heavyX

set_option maxRecDepth 20000 in
set_option maxHeartbeats 4000000 in
theorem heavy_any (v : Value) (xs : List X) (w : World) (hv : Rl w v xs) (hl : xs.length ≤ maxLen) (hf : ∀ x ∈ xs, Rq.Fit x) :
    Calls Try.prog 14 #[v] w fun e w' => e = .returned (.bool (heavyB xs)) ∧ Below w.heap.size w w' := by
  have HV : Hid (Rl w v xs ∧ ∀ x ∈ xs, Rq.Fit x) := ⟨hv, hf⟩
  obtain ⟨av, n, c, rfl, hn, hX⟩ := hv
  have HN : Hid (n = xs.length) := hn
  unfold maxLen at hl
  have hn1 : n ≤ 9223372036854775807 := by omega
  clear hn hl hX hf
  obtain ⟨R, hR⟩ : ∃ R : Bool, R = heavyB xs := ⟨_, rfl⟩
  have HR : Hid (R = heavyB xs) := hR
  rw [← hR]
  clear hR
  go_enter Try.func14, Try.ntmps14
  by_cases h20 : 20 < n
  · have h20' : (20 : Int) < (n : Int) := by omega
    have HT : Hid (R = true) := by
      have h : R = true := by rw [HR.out]; unfold heavyB; rw [decide_eq_true (by rw [← HN.out]; exact h20)]; rfl
      exact h
    go_wp2
    go_ret
    rw [HT.out]
    exact ⟨rfl, Below.refl _ _⟩
  · have h20' : ¬ (20 : Int) < (n : Int) := by omega
    have HR2 : Hid (R = xs.any heavyX) := by
      have h : R = xs.any heavyX := by rw [HR.out]; unfold heavyB; rw [decide_eq_false (by rw [← HN.out]; exact h20)]; rfl
      exact h
    go_wp2
    go_loopw [3] (fun i wr => ∃ k : Nat, k ≤ n ∧ i = .int .i64 (k : Int) ∧ (xs.take k).any heavyX = false ∧ wr = w) (fun i _ => ((n : Int) - intOf i).toNat)
    case atStart => exact ⟨0, Nat.zero_le _, rfl, rfl, rfl⟩
    case round =>
      obtain ⟨k, hk, rfl, hany, hw⟩ := hrel
      subst hw
      have HA : Hid ((xs.take k).any heavyX = false) := hany
      clear hany
      by_cases hlt : k < n
      · have hlt' : (k : Int) < (n : Int) := by omega
        have hkl : k < xs.length := by rw [← HN.out]; exact hlt
        obtain ⟨g, b, c', hv', hcc, hcs⟩ := HV.out.1.at (by omega)
        simp only [Value.slice.injEq] at hv'
        obtain ⟨rfl, hq, rfl⟩ := hv'
        obtain ⟨nv, hnv, hat⟩ := hcs k xs[k] (List.getElem?_eq_getElem hkl)
        have hfx := HV.out.2 _ (List.getElem_mem hkl)
        have HK : Hid (xs[k]? = some xs[k] ∧ Rq.Fit xs[k]) := ⟨List.getElem?_eq_getElem hkl, hfx⟩
        generalize xs[k] = x at *
        clear hcs hq hkl hcc
        have HNV : Hid (Sq wr nv x.names) := hnv
        obtain ⟨an, kn, cn, rfl, hkn, hY⟩ := hnv
        have HKN : Hid (kn = x.names.length) := hkn
        have hp1 := hfx.path
        have hd1 := hfx.data
        have hn2 : kn ≤ 9223372036854775807 := by rw [hkn]; exact hfx.count
        clear hkn hY hfx
        have e1 := hat.c1
        have e2 := hat.c2
        have e3 := hat.c3
        clear hat
        have HT : Hid (heavyX x = true → R = true) := fun h => by rw [HR2.out]; exact any_yes HK.out.1 h
        by_cases hp : 300 < x.path.size
        · have hp' : (300 : Int) < (x.path.size : Int) := by omega
          have H3 : Hid (R = true) := by
            have h : R = true := HT.out (by unfold heavyX; simp [hp])
            exact h
          go_wp2
          go_ret
          rw [H3.out]
          exact ⟨rfl, Below.refl _ _⟩
        have hp' : ¬ (300 : Int) < (x.path.size : Int) := by omega
        by_cases hd : 300 < x.data.size
        · have hd' : (300 : Int) < (x.data.size : Int) := by omega
          have H3 : Hid (R = true) := by
            have h : R = true := HT.out (by unfold heavyX; simp [hd])
            exact h
          go_wp2
          go_ret
          rw [H3.out]
          exact ⟨rfl, Below.refl _ _⟩
        have hd' : ¬ (300 : Int) < (x.data.size : Int) := by omega
        by_cases hnn : 40 < kn
        · have hnn' : (40 : Int) < (kn : Int) := by omega
          have H3 : Hid (R = true) := by
            have h : R = true := HT.out (by unfold heavyX; rw [← HKN.out]; simp [hnn])
            exact h
          go_wp2
          go_ret
          rw [H3.out]
          exact ⟨rfl, Below.refl _ _⟩
        have hnn' : ¬ (40 : Int) < (kn : Int) := by omega
        have HX : Hid (heavyX x = longB x.names) := by
          have h : heavyX x = longB x.names := by unfold heavyX; rw [← HKN.out]; simp [hp, hd, hnn]
          exact h
        obtain ⟨wq, hwq⟩ : ∃ wq, wq = wr := ⟨wr, rfl⟩
        subst hwq
        go_wp2
        go_loopw [4] (fun i wr => ∃ j : Nat, j ≤ kn ∧ i = .int .i64 (j : Int) ∧ longB (x.names.take j) = false ∧ wr = wq) (fun i _ => ((kn : Int) - intOf i).toNat)
        case atStart => exact ⟨0, Nat.zero_le _, rfl, rfl, rfl⟩
        case round =>
          obtain ⟨j, hj, rfl, hlong, hw⟩ := hrel
          subst hw
          have HL : Hid (longB (x.names.take j) = false) := hlong
          clear hlong
          by_cases hlt2 : j < kn
          · have hlt2' : (j : Int) < (kn : Int) := by omega
            have hjl : j < x.names.length := by rw [← HKN.out]; exact hlt2
            obtain ⟨g2, o2, c2, hv2, _, hcs⟩ := HNV.out.at (by omega)
            simp only [Value.slice.injEq] at hv2
            obtain ⟨rfl, hq2, rfl⟩ := hv2
            have ht := hcs j x.names[j] (List.getElem?_eq_getElem hjl)
            have hts := HK.out.2.texts _ (List.getElem_mem hjl)
            have HJ : Hid (x.names[j]? = some x.names[j]) := List.getElem?_eq_getElem hjl
            generalize x.names[j] = t at *
            clear hcs hq2 hjl
            by_cases h100 : 100 < t.size
            · have h100' : (100 : Int) < (t.size : Int) := by omega
              have H3 : Hid (R = true) := by
                have h : R = true := HT.out (by rw [HX.out]; exact any_yes HJ.out (by simp [h100]))
                exact h
              go_wp2
              go_ret
              rw [H3.out]
              exact ⟨rfl, Below.refl _ _⟩
            · have h100' : ¬ (100 : Int) < (t.size : Int) := by omega
              have HL2 : Hid (longB (x.names.take (j + 1)) = false) := by
                have h : longB (x.names.take (j + 1)) = false := by
                  have h2 := HL.out
                  unfold longB at h2 ⊢
                  rw [List.take_add_one, HJ.out, List.any_append, h2]
                  simp
                  omega
                exact h
              go_wp2
              go_roundw
              case rel => exact ⟨j + 1, by omega, by go_num, HL2.out, trivial⟩
              case measure => simp [intOf]; omega
          · have hlt2' : ¬ (j : Int) < (kn : Int) := by omega
            have HA2 : Hid ((xs.take (k + 1)).any heavyX = false) := by
              have h : (xs.take (k + 1)).any heavyX = false := by
                have h2 := HL.out
                rw [List.take_of_length_le (by rw [← HKN.out]; omega), ← HX.out] at h2
                rw [List.take_add_one, HK.out.1, List.any_append, HA.out]
                simp [h2]
              exact h
            go_wp2
            go_roundw
            case rel => exact ⟨k + 1, by omega, by go_num, HA2.out, trivial⟩
            case measure => simp [intOf]; omega
      · have hlt' : ¬ (k : Int) < (n : Int) := by omega
        have HF : Hid (R = false) := by
          have h : R = false := by
            have h2 := HA.out
            rw [List.take_of_length_le (by rw [← HN.out]; omega)] at h2
            rw [HR2.out, h2]
          exact h
        go_wp2
        go_ret
        rw [HF.out]
        exact ⟨rfl, Below.refl _ _⟩
end Go.Proofs.Ytebmcjhhoionbaa
