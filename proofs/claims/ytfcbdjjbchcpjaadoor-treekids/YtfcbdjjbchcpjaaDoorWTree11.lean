/- What the landed tree's small calls answer: New, Len, mayLay, above. -/
import Derived.Test.YtfcbdjjbchcpjaaDoorPlainL11
import Derived.BigQuiet
namespace Go.Proofs.YtfcbdjjbchcpjaaDoor
open Go.RowKit

theorem zeroPtr11 (w : World) : (zeroValue 54).run Tryd.prog w = .ok (.pointer none) w := by kernel_rfl

set_option maxRecDepth 20000 in
set_option maxHeartbeats 1000000 in
theorem new_no11 (n : Int) (w : World) (h : n < 1 ∨ 500 < n) : Calls Tryd.prog 8 #[.int .i64 n] w fun e w' => e = .returned (.tuple #[.pointer none, .int .i64 1]) ∧ w' = w := by
  by_cases h1 : n < 1
  · clear h
    go_enter Tryd.func8, Tryd.ntmps8
    go_wp2
    go_ret2
    exact ⟨rfl, rfl⟩
  · have h2 : 500 < n := h.resolve_left h1
    clear h
    go_enter Tryd.func8, Tryd.ntmps8
    go_wp2
    go_ret2
    exact ⟨rfl, rfl⟩

set_option maxRecDepth 20000 in
set_option maxHeartbeats 1000000 in
theorem new_yes11 (n : Int) (w : World) (h1 : ¬ n < 1) (h2 : ¬ 500 < n) : Calls Tryd.prog 8 #[.int .i64 n] w fun e w' => e = .returned (.tuple #[dptr (w.heap.size + 1), .int .i64 0]) ∧ w' = (w.alloc (.map #[] 0)).alloc (.cells #[.map (some w.heap.size), .int .i64 n] 52) := by
  have hmm := @run_makeMap Tryd.prog
  go_enter Tryd.func8, Tryd.ntmps8
  go_wp2
  go_ret2
  exact ⟨rfl, rfl⟩

theorem new_any11 (n : Int) (w : World) : Calls Tryd.prog 8 #[.int .i64 n] w fun e w' => Below w.heap.size w w' ∧
    if n < 1 ∨ 500 < n then e = .returned (.tuple #[.pointer none, .int .i64 1]) else ∃ q F, e = .returned (.tuple #[dptr q, .int .i64 0]) ∧ LTk w' q ⟨n, []⟩ F ∧ ∀ k, F k → w.heap.size ≤ k := by
  by_cases h : n < 1 ∨ 500 < n
  · refine (new_no11 n w h).mono ?_
    rintro e w' ⟨rfl, rfl⟩
    rw [if_pos h]
    exact ⟨Below.refl _ _, rfl⟩
  · refine (new_yes11 n w (by omega) (by omega)).mono ?_
    rintro e w' ⟨rfl, rfl⟩
    rw [if_neg h]
    have hb1 : Below w.heap.size w (w.alloc (.map #[] 0)) := (Below.refl _ w).alloc (Nat.le_refl _) _
    have hb2 := hb1.alloc hb1.size (.cells #[.map (some w.heap.size), .int .i64 n] 52)
    have hs1 : (w.alloc (.map #[] 0)).heap.size = w.heap.size + 1 := by simp
    obtain ⟨w1, hw1⟩ : ∃ w1, w1 = w.alloc (.map #[] 0) := ⟨_, rfl⟩
    have hown : w1.ownsMap Tryd.prog 9 fElem w.heap.size 0 (.map []) := by rw [hw1]; exact World.ownsMap_made w _ _ _
    rw [← hw1] at hb1 hb2 hs1 ⊢
    refine ⟨hb2, w.heap.size + 1, fun k => k = w.heap.size ∨ k = w.heap.size + 1, rfl, ⟨w.heap.size, .map [], fun _ => 0, fun _ => .slice none 0 0, ⟨?_, hown.alloc _, rfl, fun kl => ?_, fun f hf => (by cases hf), fun f hf => (by cases hf), fun f hf => (by cases hf), Or.inr rfl, Or.inl rfl, fun f hf => (by cases hf), fun k hk => ?_⟩⟩, fun k hk => by omega⟩
    · have := Cb.made w1 [.map (some w.heap.size), .int .i64 n] 52
      rw [hs1] at this
      exact this
    · constructor
      · intro h
        cases h
      · rintro ⟨f, hf, _⟩
        cases hf
    · have h2 : (w1.alloc (.cells #[.map (some w.heap.size), .int .i64 n] 52)).heap.size = w1.heap.size + 1 := by simp
      rw [h2]
      omega

section
variable {w : World} {q m : Nat} {t : Tq.Tr} {G : Nat → Prop} {D : DataW Nat} {P : ByteArray → Nat} {V : ByteArray → Value}

set_option maxRecDepth 20000 in
set_option maxHeartbeats 1000000 in
theorem len_any11 (h : TkU w q t G m D P V) : Calls Tryd.prog 15 #[dptr q] w fun e w' => e = .returned (.int .i64 (t.l.length : Int)) ∧ w' = w := by
  have HO : Hid (w.ownsMap Tryd.prog 9 fElem m t.l.length D ∧ Maps.size D = t.l.length) := ⟨h.own, h.sz⟩
  have c0 : w.cell? ⟨q, 0, none⟩ = some (.map (some m)) := h.blk.cell 0
  clear h
  go_enter Tryd.func15, Tryd.ntmps15
  go_wp2_with (at_len; refine wpList_len_own _ rfl _ 50 rfl 9 54 Tryd.underlying50 fElem m t.l.length D rfl HO.out.1 ?_)
  rw [HO.out.2]
  go_wp2
  go_ret
  exact ⟨rfl, rfl⟩

set_option maxRecDepth 20000 in
set_option maxHeartbeats 2000000 in
theorem mayLay_any11 (p : ByteArray) (h : TkU w q t G m D P V) (hp : p.size ≤ maxLen) :
    Calls Tryd.prog 36 #[dptr q, .string p] w fun e w' => e = .returned (.int .i64 (Tq.mayT t p)) ∧ Below w.heap.size w w' := by
  have HD : Hid (TkU w q t G m D P V) := h
  have HK : Hid (keyOf Tryd.prog 9 (.string p) = some (fkey p)) := key_of hp
  have c0 : w.cell? ⟨q, 0, none⟩ = some (.map (some m)) := h.blk.cell 0
  have c1 : w.cell? ⟨q, 1, none⟩ = some (.int .i64 t.room) := h.blk.cell 1
  clear h hp
  unfold Tq.mayT
  cases hf : Tq.find t.l p with
  | some n =>
    have HN : Hid (Maps.has D (fkey p) = true ∧ ∀ z, D.atKey (fkey p) z = .held (P p)) := HD.out.there hf
    clear hf
    go_enter Tryd.func36, Tryd.ntmps36
    go_wp2_with (at_lookup; refine wpList_lookup_own_ok _ rfl _ _ 50 rfl 9 54 keyed11 Tryd.underlying50 fElem (zeroPtr11 _) .nil [] rfl m t.l.length D rfl HD.out.own (.string p) (fkey p) rfl HK.out ?_)
    intro v ps hv
    rw [HN.out.2] at hv
    obtain rfl := fElem_held hv
    rw [HN.out.1]
    clear hv
    go_wp2
    go_ret
    exact ⟨rfl, Below.refl _ _⟩
  | none =>
    have HN : Hid (Maps.has D (fkey p) = false) := HD.out.nowhere hf
    clear hf
    simp only []
    by_cases hl : t.room ≤ (t.l.length : Int)
    · rw [if_pos hl]
      go_enter Tryd.func36, Tryd.ntmps36
      go_wp2_with (at_lookup; refine wpList_lookup_own_ok _ rfl _ _ 50 rfl 9 54 keyed11 Tryd.underlying50 fElem (zeroPtr11 _) .nil [] rfl m t.l.length D rfl HD.out.own (.string p) (fkey p) rfl HK.out ?_)
      intro v ps hv
      rw [Maps.atKey_of_not_has HN.out] at hv
      obtain rfl := fElem_nil hv
      rw [HN.out]
      clear hv
      have hln : ∀ n, (Builtin.len_ #[50] 3 #[.map (some m)]).run Tryd.prog (w.drewN n) = .ok (.int .i64 (t.l.length : Int)) (w.drewN n) := fun n => by
        have h := ((HD.out.below (below_drewN (Below.refl _ w) n)).own.len Tryd.underlying50 3)
        rw [HD.out.sz] at h
        exact h
      go_wp2
      go_quiet (fail)
      clear hln
      go_wp2
      go_ret
      exact ⟨rfl, below_drewN (Below.refl _ w) _⟩
    · rw [if_neg hl]
      go_enter Tryd.func36, Tryd.ntmps36
      go_wp2_with (at_lookup; refine wpList_lookup_own_ok _ rfl _ _ 50 rfl 9 54 keyed11 Tryd.underlying50 fElem (zeroPtr11 _) .nil [] rfl m t.l.length D rfl HD.out.own (.string p) (fkey p) rfl HK.out ?_)
      intro v ps hv
      rw [Maps.atKey_of_not_has HN.out] at hv
      obtain rfl := fElem_nil hv
      rw [HN.out]
      clear hv
      have hln : ∀ n, (Builtin.len_ #[50] 3 #[.map (some m)]).run Tryd.prog (w.drewN n) = .ok (.int .i64 (t.l.length : Int)) (w.drewN n) := fun n => by
        have h := ((HD.out.below (below_drewN (Below.refl _ w) n)).own.len Tryd.underlying50 3)
        rw [HD.out.sz] at h
        exact h
      go_wp2
      go_quiet (fail)
      clear hln
      go_wp2
      go_ret
      exact ⟨rfl, below_drewN (Below.refl _ w) _⟩

set_option maxRecDepth 20000 in
set_option maxHeartbeats 2000000 in
theorem above_any11 (p : ByteArray) (h : TkU w q t G m D P V) (hS : Pa.Std w) (hg : Pl.goodB p.data.toList = true) :
    Calls Tryd.prog 26 #[dptr q, .string p] w fun e w' => Below w.heap.size w w' ∧ (∀ um, Tq.abv t.l p = some um → e = .returned (.tuple #[dptr (P um.1), .bool true])) ∧ (Tq.abv t.l p = none → e = .returned (.tuple #[.pointer none, .bool false])) := by
  have HD : Hid (TkU w q t G m D P V) := h
  have HP : Hid (Calls Tryd.prog 40 #[.string p] w fun e w' => Below w.heap.size w w' ∧ (∀ u, Tq.up p = some u → e = .returned (.tuple #[.string u, .bool true])) ∧ (Tq.up p = none → e = .returned (.tuple #[.string ⟨#[]⟩, .bool false]))) := parent_up p w hS hg
  cases hu : Tq.up p with
  | none =>
    have HA : Hid (Tq.abv t.l p = none) := by
      have e : Tq.abv t.l p = none := by unfold Tq.abv; rw [hu]
      exact e
    have HU : Hid (Tq.up p = none) := hu
    clear h hS hg hu
    go_enter Tryd.func26, Tryd.ntmps26
    go_wp2_with fail
    refine HP.out.mono ?_
    rintro e w1 ⟨hb, _, he⟩
    obtain rfl := he HU.out
    have HB : Hid (Below w.heap.size w w1) := hb
    clear hb he
    go_wp2
    go_ret2
    exact ⟨HB.out, fun um hum => by (rw [HA.out] at hum; cases hum), fun _ => rfl⟩
  | some u =>
    have HU : Hid (Tq.up p = some u) := hu
    have HK : Hid (keyOf Tryd.prog 9 (.string u) = some (fkey u)) := key_of (good_max (Tq.up_sub hg hu).2)
    cases hn : Tq.find t.l u with
    | none =>
      have HA : Hid (Tq.abv t.l p = none) := by
        have e : Tq.abv t.l p = none := by unfold Tq.abv; rw [hu]; simp only []; rw [hn]; rfl
        exact e
      have HN : Hid (Maps.has D (fkey u) = false) := h.nowhere hn
      clear h hS hg hu hn
      go_enter Tryd.func26, Tryd.ntmps26
      go_wp2_with fail
      refine HP.out.mono ?_
      rintro e w1 ⟨hb, he, _⟩
      obtain rfl := he u HU.out
      have HB : Hid (Below w.heap.size w w1) := hb
      have HE : Hid (TkU w1 q t G m D P V) := HD.out.below hb
      have c0 : w1.cell? ⟨q, 0, none⟩ = some (.map (some m)) := HE.out.blk.cell 0
      clear hb he
      go_wp2_with (at_lookup; refine wpList_lookup_own_ok _ rfl _ _ 50 rfl 9 54 keyed11 Tryd.underlying50 fElem (zeroPtr11 _) .nil [] rfl m t.l.length D rfl HE.out.own (.string u) (fkey u) rfl HK.out ?_)
      intro v ps hv
      rw [Maps.atKey_of_not_has HN.out] at hv
      obtain rfl := fElem_nil hv
      rw [HN.out]
      clear hv c0
      go_wp2
      go_ret2
      exact ⟨HB.out, fun um hum => by (rw [HA.out] at hum; cases hum), fun _ => rfl⟩
    | some n =>
      have HA : Hid (Tq.abv t.l p = some (u, n)) := by
        have e : Tq.abv t.l p = some (u, n) := by unfold Tq.abv; rw [hu]; simp only []; rw [hn]; rfl
        exact e
      have HN : Hid (Maps.has D (fkey u) = true ∧ ∀ z, D.atKey (fkey u) z = .held (P u)) := h.there hn
      obtain ⟨b, hb⟩ : ∃ b, b = P u := ⟨_, rfl⟩
      have HBU : Hid (b = P u) := hb
      rw [← hb] at HN
      clear h hS hg hu hn hb
      go_enter Tryd.func26, Tryd.ntmps26
      go_wp2_with fail
      refine HP.out.mono ?_
      rintro e w1 ⟨hb, he, _⟩
      obtain rfl := he u HU.out
      have HB : Hid (Below w.heap.size w w1) := hb
      have HE : Hid (TkU w1 q t G m D P V) := HD.out.below hb
      have c0 : w1.cell? ⟨q, 0, none⟩ = some (.map (some m)) := HE.out.blk.cell 0
      clear hb he
      go_wp2_with (at_lookup; refine wpList_lookup_own_ok _ rfl _ _ 50 rfl 9 54 keyed11 Tryd.underlying50 fElem (zeroPtr11 _) .nil [] rfl m t.l.length D rfl HE.out.own (.string u) (fkey u) rfl HK.out ?_)
      intro v ps hv
      rw [HN.out.2] at hv
      obtain rfl := fElem_held hv
      rw [HN.out.1]
      clear hv c0
      go_wp2
      go_ret2
      exact ⟨HB.out, fun um hum => by (rw [HA.out] at hum; rw [← Option.some.inj hum, ← HBU.out]; rfl), fun hum => by (rw [HA.out] at hum; cases hum)⟩
end
end Go.Proofs.YtfcbdjjbchcpjaaDoor
