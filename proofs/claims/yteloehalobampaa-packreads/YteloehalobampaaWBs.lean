/- The calls of pack over bytes wherever they lie; 'string(b)'. -/
import Derived.Test.YteloehalobampaaWNum
namespace Go.Proofs.Yteloehalobampaa
open Go.RowKit

/-- A value is a slice of these bytes. -/
def Bs (w : World) (v : Value) (xs : List UInt8) : Prop := ∃ ao n c, v = .slice ao n c ∧ n = xs.length ∧ Sl w ao c xs

theorem Bs.below {w w' : World} {v : Value} {xs : List UInt8} (h : Bs w v xs) (hb : Below w.heap.size w w') : Bs w' v xs := by
  obtain ⟨ao, n, c, rfl, hn, hs⟩ := h
  exact ⟨ao, n, c, rfl, hn, hs.below hb⟩

theorem Bs.grown {w w' : World} {v : Value} {xs : List UInt8} {r : Nat} (h : Bs w v xs) (hg : w.grownBy w' (some r)) (hr : 0 < xs.length → v.ownBlock ≠ some r) : Bs w' v xs := by
  obtain ⟨ao, n, c, rfl, hn, hs⟩ := h
  refine ⟨ao, n, c, rfl, hn, hs.cap, hs.nil, fun ad had j u hu => hg.cell (hs.cells ad had j u hu) ?_⟩
  subst had
  intro e
  have h0 : 0 < xs.length := by
    have := (List.getElem?_eq_some_iff.1 hu).1
    rw [bc_len] at this
    omega
  apply hr h0
  rw [← e]
  simp only [Value.ownBlock, Addr.add]
  split <;> rfl

theorem Bs.nil (w : World) : Bs w (.slice none 0 0) [] := ⟨none, 0, 0, rfl, rfl, Nat.le_refl _, fun _ => ⟨rfl, rfl⟩, fun _ h => by cases h⟩

theorem Bs.own {w : World} {B n : Nat} {v : Value} {xs : List UInt8} (h : w.ownsRow B 5 1 v n (bc xs)) : Bs w v xs := by
  obtain ⟨ao, c, rfl⟩ := own_shape h
  exact ⟨ao, n, c, rfl, (Sl.own h).1, (Sl.own h).2⟩

/-- 'string(b)'. -/
theorem Bs.conv {w : World} {v : Value} {xs : List UInt8} (h : Bs w v xs) : (convert 25 9 v).run Try.prog w = .ok (.string ⟨xs.toArray⟩) w := by
  obtain ⟨ao, n, c, rfl, hn, hs⟩ := h
  cases ao with
  | none =>
    have h0 := (hs.nil rfl).1
    obtain rfl : xs = [] := List.length_eq_zero_iff.1 h0
    exact run_convert_bytes_nil w 25 5 Try.underlying25 Try.underlying5 _ _ 9 Try.underlying9
  | some a =>
    subst hn
    exact run_convert_bytes_back (P := Try.prog) w 25 9 5 a c xs Try.underlying25 Try.underlying5 Try.underlying9 (fun j hj => hs.cells a rfl j _ (by simp [bc, List.getElem?_eq_getElem hj]))

theorem Bs.cut {w : World} {ao : Option Addr} {n c k : Nat} {xs : List UInt8} (h : Bs w (.slice ao n c) xs) (hk : k ≤ n) : Bs w (.slice ao k c) (xs.take k) := by
  obtain ⟨ao', n', c', hv, hn, hs⟩ := h
  simp only [Value.slice.injEq] at hv
  obtain ⟨rfl, rfl, rfl⟩ := hv
  refine ⟨ao, k, c, rfl, by rw [List.length_take]; omega, by rw [List.length_take]; have := hs.cap; omega, fun e => ?_, fun ad had j u hu => ?_⟩
  · have := hs.nil e
    exact ⟨by rw [List.length_take]; omega, this.2⟩
  · refine hs.cells ad had j u ?_
    unfold bc at hu ⊢
    rw [List.map_take, List.getElem?_take] at hu
    split at hu
    · exact hu
    · cases hu

theorem text_bs (v : Value) (xs : List UInt8) (s : ByteArray) (w : World) (h : Bs w v xs) (hN : xs.length ≤ 100000) (hs : s.size ≤ 10000) :
    Calls Try.prog 11 #[v, .string s] w fun e w' => ∃ v', e = .returned v' ∧ Bs w' v' (xs ++ Pk.txt s.data.toList) ∧ Below w.heap.size w w' := by
  obtain ⟨ao, n, c, rfl, hn, hsl⟩ := h
  refine (text_any ao n c xs s w hn hsl (by omega) hs).mono ?_
  rintro e w' ⟨v', rfl, ho, hb⟩
  exact ⟨v', rfl, Bs.own ho, hb⟩

theorem i64_bs (v : Value) (xs : List UInt8) (z : Int) (w : World) (h : Bs w v xs) (hN : xs.length ≤ 100000) :
    Calls Try.prog 25 #[v, .int .i64 z] w fun e w' => ∃ v', e = .returned v' ∧ Bs w' v' (xs ++ Pk.be8 z) ∧ Below w.heap.size w w' := by
  obtain ⟨ao, n, c, rfl, hn, hsl⟩ := h
  refine (i64_any ao n c xs z w hn hsl (by omega)).mono ?_
  rintro e w' ⟨v', rfl, ho, hb⟩
  exact ⟨v', rfl, Bs.own ho, hb⟩

/-- A value is a slice of these numbers. -/
def Bi (w : World) (u : Value) (zs : List Int) : Prop := ∃ av k c, u = .slice av k c ∧ k = zs.length ∧ ∀ (j : Nat) z, zs[j]? = some z → ∃ g o, av = some ⟨g, o, none⟩ ∧ w.cell? ⟨g, o + j, none⟩ = some (.int .i64 z)

theorem Bi.below {w w' : World} {v : Value} {zs : List Int} (h : Bi w v zs) (hb : Below w.heap.size w w') : Bi w' v zs := by
  obtain ⟨av, k, c, hv, hk, hc⟩ := h
  refine ⟨av, k, c, hv, hk, fun j z hz => ?_⟩
  obtain ⟨g, o, ha, hcell⟩ := hc j z hz
  exact ⟨g, o, ha, Below.kept hb hcell⟩

/-- A value is a slice of these texts. -/
def Ss (w : World) (u : Value) (ss : List ByteArray) : Prop := ∃ av k c, u = .slice av k c ∧ k = ss.length ∧ ∀ (j : Nat) s, ss[j]? = some s → ∃ g o, av = some ⟨g, o, none⟩ ∧ w.cell? ⟨g, o + j, none⟩ = some (.string s)

theorem Ss.below {w w' : World} {v : Value} {ss : List ByteArray} (h : Ss w v ss) (hb : Below w.heap.size w w') : Ss w' v ss := by
  obtain ⟨av, k, c, hv, hk, hc⟩ := h
  refine ⟨av, k, c, hv, hk, fun j z hz => ?_⟩
  obtain ⟨g, o, ha, hcell⟩ := hc j z hz
  exact ⟨g, o, ha, Below.kept hb hcell⟩

theorem all_bs (v u : Value) (xs : List UInt8) (zs : List Int) (w : World) (h : Bs w v xs) (hi : Bi w u zs) (hN : xs.length ≤ 100000) (hK : zs.length ≤ 10000) :
    Calls Try.prog 14 #[v, u] w fun e w' => ∃ v', e = .returned v' ∧ Bs w' v' (xs ++ zs.flatMap Pk.be8) ∧ Below w.heap.size w w' := by
  obtain ⟨ao, n, c, rfl, hn, hsl⟩ := h
  obtain ⟨av, k, cv, rfl, hk, hcs⟩ := hi
  cases hz : zs with
  | nil =>
    subst hz
    obtain rfl : k = 0 := hk
    refine (all_none ao n c xs av cv w hn hsl (by omega)).mono ?_
    rintro e w' ⟨v', rfl, ho, hb⟩
    exact ⟨v', rfl, by simpa using Bs.own ho, hb⟩
  | cons z0 zt =>
    obtain ⟨g, o, rfl, _⟩ := hcs 0 z0 (by rw [hz]; rfl)
    rw [← hz]
    refine (all_some ao n c xs zs g o k cv w hn hsl hk (fun j z hzj => ?_) (by omega) (by omega)).mono ?_
    · obtain ⟨g', o', e, hcell⟩ := hcs j z hzj
      simp only [Option.some.injEq, Addr.mk.injEq, and_true] at e
      obtain ⟨rfl, rfl⟩ := e
      exact hcell
    rintro e w' ⟨v', rfl, ho, hb⟩
    exact ⟨v', rfl, Bs.own ho, hb⟩

theorem read_bs (v : Value) (xs : List UInt8) (w : World) (h : Bs w v xs) (hN : xs.length ≤ 100000) :
    Calls Try.prog 10 #[v] w fun e w' => ∃ q, e = .returned (.pointer (some ⟨q, 0, none⟩)) ∧ w.heap.size ≤ q ∧ Rd w' q xs false ∧ Below w.heap.size w w' := by
  obtain ⟨ao, n, c, rfl, hn, hsl⟩ := h
  exact read_any ao n c xs w hn hsl (by omega)

/-- What a Reader's call changes lies from B on. -/
theorem Below.reader {B q : Nat} {w w1 w2 : World} (h : Below B w w1) (hg : w1.grownBy w2 (some q)) (hB : B ≤ w.heap.size) (hq : B ≤ q) : Below B w w2 :=
  h.grown hg (Nat.le_trans hB h.size) (fun k hk => by simp at hk; omega)

theorem ab_txt : Pk.txt [97, 98] = [0, 0, 0, 0, 0, 0, 0, 2, 97, 98] := by decide

set_option maxHeartbeats 400000 in
theorem awake_any (w : World) : Calls Try.prog 9 #[] w fun e w' => e = .returned (.bool true) ∧ Below w.heap.size w w' := by
  go_enter Try.func9, Try.ntmps9
  go_wp2_with fail
  refine (text_bs _ [] _ _ (Bs.nil _) (by decide) (by decide)).mono ?_
  rintro e w1 ⟨v, rfl, hbs, hb⟩
  have HS : Hid (Bs w1 v [0, 0, 0, 0, 0, 0, 0, 2, 97, 98]) := by
    have h : Bs w1 v ([] ++ Pk.txt [97, 98]) := hbs
    rw [ab_txt] at h
    exact h
  have HB : Hid (Below w.heap.size w w1) := hb
  clear hbs hb
  go_wp2_with fail
  refine (read_bs v _ _ HS.out (by decide)).mono ?_
  rintro e w2 ⟨q, rfl, hq, hr, hb⟩
  have HR : Hid (Rd w2 q [0, 0, 0, 0, 0, 0, 0, 2, 97, 98] false) := hr
  have HB2 : Hid (Below w.heap.size w w2) := HB.out.trans (hb.mono HB.out.size)
  have HQ : Hid (w.heap.size ≤ q) := Nat.le_trans HB.out.size hq
  have hcv := (HS.out.below hb).conv
  clear hb hr hq
  go_wp2_with fail
  refine (rText_any q _ _ _ _ HR.out).mono ?_
  rintro e w3 ⟨rfl, hr, hg⟩
  rw [← ab_txt, Pk.rT_txt' _ _ _ (by decide) (by decide)] at hr ⊢
  have HR3 : Hid (Rd w3 q [] false) := hr
  have HB3 : Hid (Below w.heap.size w w3) := Below.reader HB2.out hg (Nat.le_refl _) HQ.out
  clear hr hg hcv
  go_wp2_with fail
  refine (rEnd_any q _ _ _ HR3.out).mono ?_
  rintro e w4 ⟨rfl, hw⟩
  rw [hw]
  clear hw w4
  go_wp2
  go_ret
  exact ⟨rfl, HB3.out⟩
end Go.Proofs.Yteloehalobampaa
