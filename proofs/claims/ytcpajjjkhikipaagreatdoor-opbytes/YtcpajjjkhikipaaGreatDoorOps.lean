/- Ops and lists of Ops, wherever they lie. -/
import Derived.Test.YtcpajjjkhikipaaGreatDoorBase
import Derived.BigRegion
import Derived.Deep.QuietTactic
import Derived.BigQuiet
import Derived.Deep.RegionWith
namespace Go.Proofs.YtcpajjjkhikipaaGreatDoor
open Go.RowKit

/-- What is asked of one path. -/
structure O where
  kind : Int
  path : ByteArray
  data : ByteArray
  ver : Int
  flags : Int

/-- Its cells, and it as a value. -/
def oc (o : O) : List Value := [.int .i64 o.kind, .string o.path, .string o.data, .int .i64 o.ver, .int .i64 o.flags]
def ov (o : O) : Value := .agg #[.int .i64 o.kind, .string o.path, .string o.data, .int .i64 o.ver, .int .i64 o.flags]

/-- A value is a slice of Ops. -/
def Ol (w : World) (v : Value) (os : List O) : Prop := ∃ av k c, v = .slice av k c ∧ k = os.length ∧ k ≤ c ∧ (av = none → c = 0) ∧ ∀ (j : Nat) o, os[j]? = some o → ∃ g b, av = some ⟨g, b, none⟩ ∧ ∀ (i : Nat) u, (oc o)[i]? = some u → w.cell? ⟨g, b + (j * 5 + i), none⟩ = some u

theorem Ol.below {w w' : World} {v : Value} {os : List O} (h : Ol w v os) (hb : Below w.heap.size w w') : Ol w' v os := by
  obtain ⟨av, k, c, hv, hk, hc, hn, hs⟩ := h
  refine ⟨av, k, c, hv, hk, hc, hn, fun j o ho => ?_⟩
  obtain ⟨g, b, ha, hcell⟩ := hs j o ho
  exact ⟨g, b, ha, fun i u hu => Below.kept hb (hcell i u hu)⟩

/-- The cells of an Op in a list. -/
theorem Ol.at {w : World} {v : Value} {os : List O} (h : Ol w v os) (h0 : 0 < os.length) : ∃ g b c, v = .slice (some ⟨g, b, none⟩) os.length c ∧ ∀ (j : Nat) o, os[j]? = some o →
    w.cell? ⟨g, b + j * 5, none⟩ = some (.int .i64 o.kind) ∧ w.cell? ⟨g, b + j * 5 + 1, none⟩ = some (.string o.path) ∧ w.cell? ⟨g, b + j * 5 + 2, none⟩ = some (.string o.data) ∧ w.cell? ⟨g, b + j * 5 + 3, none⟩ = some (.int .i64 o.ver) ∧ w.cell? ⟨g, b + j * 5 + 4, none⟩ = some (.int .i64 o.flags) := by
  obtain ⟨av, k, c, rfl, hk, hc, hn, hs⟩ := h
  obtain ⟨g, b, rfl, _⟩ := hs 0 os[0] (List.getElem?_eq_getElem h0)
  refine ⟨g, b, c, by rw [hk], fun j o ho => ?_⟩
  obtain ⟨g', b', e, hcell⟩ := hs j o ho
  simp only [Option.some.injEq, Addr.mk.injEq, and_true] at e
  obtain ⟨rfl, rfl⟩ := e
  exact ⟨hcell 0 _ rfl, hcell 1 _ rfl, hcell 2 _ rfl, hcell 3 _ rfl, hcell 4 _ rfl⟩

theorem any_yes {α : Type} {l : List α} {k : Nat} {x : α} {p : α → Bool} (h : l[k]? = some x) (hp : p x = true) : l.any p = true :=
  List.any_eq_true.2 ⟨x, List.mem_of_getElem? h, hp⟩

/-- Is a list of Ops more than is asked of? -/
def greatB (os : List O) : Bool := decide (20 < os.length) || os.any fun o => decide (300 < o.path.size) || decide (1100 < o.data.size)

set_option maxRecDepth 20000 in
set_option maxHeartbeats 1000000 in
theorem great_any (v : Value) (os : List O) (w : World) (hv : Ol w v os) (hl : os.length ≤ maxLen) :
    Calls Tryz.prog 14 #[v] w fun e w' => e = .returned (.bool (greatB os)) ∧ Below w.heap.size w w' := by
  have HV : Hid (Ol w v os) := hv
  obtain ⟨av, n, c, rfl, hn, _⟩ := hv
  have HN : Hid (n = os.length) := hn
  unfold maxLen at hl
  have hn1 : n ≤ 9223372036854775807 := by omega
  clear hn hl
  obtain ⟨R, hR⟩ : ∃ R : Bool, R = greatB os := ⟨_, rfl⟩
  have HR : Hid (R = greatB os) := hR
  rw [← hR]
  clear hR
  go_enter Tryz.func14, Tryz.ntmps14
  by_cases h20 : 20 < n
  · have h20' : (20 : Int) < (n : Int) := by omega
    have HT : Hid (R = true) := by
      have h : R = true := by rw [HR.out]; unfold greatB; rw [decide_eq_true (by rw [← HN.out]; exact h20)]; rfl
      exact h
    go_wp2
    go_ret
    rw [HT.out]
    exact ⟨rfl, Below.refl _ _⟩
  · have h20' : ¬ (20 : Int) < (n : Int) := by omega
    have HR2 : Hid (R = os.any fun o => decide (300 < o.path.size) || decide (1100 < o.data.size)) := by
      have h : R = os.any fun o => decide (300 < o.path.size) || decide (1100 < o.data.size) := by rw [HR.out]; unfold greatB; rw [decide_eq_false (by rw [← HN.out]; exact h20)]; rfl
      exact h
    go_wp2
    go_loopw [3] (fun i wr => ∃ k : Nat, k ≤ n ∧ i = .int .i64 (k : Int) ∧ ((os.take k).any fun o => decide (300 < o.path.size) || decide (1100 < o.data.size)) = false ∧ Below w.heap.size w wr) (fun i _ => ((n : Int) - intOf i).toNat)
    case atStart => exact ⟨0, Nat.zero_le _, rfl, rfl, Below.refl _ _⟩
    case round =>
      obtain ⟨k, hk, rfl, hany, hb⟩ := hrel
      have HA : Hid (((os.take k).any fun o => decide (300 < o.path.size) || decide (1100 < o.data.size)) = false) := hany
      have HB : Hid (Below w.heap.size w wr) := hb
      clear hany
      by_cases hlt : k < n
      · have hlt' : (k : Int) < (n : Int) := by omega
        have hkl : k < os.length := by rw [← HN.out]; exact hlt
        obtain ⟨g, b, c', hv', hcs⟩ := (HV.out.below hb).at (by omega)
        simp only [Value.slice.injEq] at hv'
        obtain ⟨rfl, hq, rfl⟩ := hv'
        obtain ⟨_, h1, h2, _, _⟩ := hcs k os[k] (List.getElem?_eq_getElem hkl)
        have HK : Hid (os[k]? = some os[k]) := List.getElem?_eq_getElem hkl
        generalize os[k] = o at *
        clear hcs hq hb hkl
        by_cases hp : 300 < o.path.size
        · have hp' : (300 : Int) < (o.path.size : Int) := by omega
          have HT : Hid (R = true) := by
            have h : R = true := by rw [HR2.out]; exact any_yes HK.out (by simp [hp])
            exact h
          go_wp2
          go_ret
          rw [HT.out]
          exact ⟨rfl, HB.out⟩
        · have hp' : ¬ (300 : Int) < (o.path.size : Int) := by omega
          by_cases hd : 1100 < o.data.size
          · have hd' : (1100 : Int) < (o.data.size : Int) := by omega
            have HT : Hid (R = true) := by
              have h : R = true := by rw [HR2.out]; exact any_yes HK.out (by simp [hd])
              exact h
            go_wp2
            go_ret
            rw [HT.out]
            exact ⟨rfl, HB.out⟩
          · have hd' : ¬ (1100 : Int) < (o.data.size : Int) := by omega
            have HA2 : Hid (((os.take (k + 1)).any fun o => decide (300 < o.path.size) || decide (1100 < o.data.size)) = false) := by
              have h : ((os.take (k + 1)).any fun o => decide (300 < o.path.size) || decide (1100 < o.data.size)) = false := by
                rw [List.take_add_one, HK.out, List.any_append, HA.out]
                simp [hp, hd]
              exact h
            go_wp2
            go_roundw
            case rel => exact ⟨k + 1, by omega, by go_num, HA2.out, HB.out⟩
            case measure => simp [intOf]; omega
      · have hlt' : ¬ (k : Int) < (n : Int) := by omega
        have HF : Hid (R = false) := by
          have h : R = false := by
            have h2 := HA.out
            rw [List.take_of_length_le (by rw [← HN.out]; omega)] at h2
            rw [HR2.out, h2]
          exact h
        clear hb
        go_wp2
        go_ret
        rw [HF.out]
        exact ⟨rfl, HB.out⟩
end Go.Proofs.YtcpajjjkhikipaaGreatDoor
