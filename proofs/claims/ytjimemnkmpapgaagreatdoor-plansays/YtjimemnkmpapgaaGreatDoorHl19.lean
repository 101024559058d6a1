/- Drawn regions that end in a store: what their reads see is held till that store. Drawn regions that end in several stores: what their reads see is held till the first of these comes up. -/
import Derived.Test.YtjimemnkmpapgaaGreatDoorBase
import Derived.Deep.RegionHeld3
namespace Go.Proofs.YtjimemnkmpapgaaGreatDoor
open Go.RowKit

section
variable {P : Program} {ops : Array Oper} {Q : Exit → Act → World → Prop} {md : Region.Mode} {S : World → Prop} {z : Nat}

/-- Whatever order is picked from here on; S holds behind every operation but number z. -/
def wpAnyT (P : Program) (md : Region.Mode) (ops : Array Oper) (Q : Exit → Act → World → Prop) (S : World → Prop) (z : Nat) : Nat → Array Bool → Act → World → Prop
  | 0, listed, a, w => Region.ready md ops listed = [] ∧ Q .normal a w
  | fuel + 1, listed, a, w =>
    (Region.ready md ops listed = [] → Q .normal a w) ∧
    ∀ i ∈ Region.ready md ops listed, wpOp P ops Q i (fun a' w' => (i ≠ z → S w') ∧ wpAnyT P md ops Q S z fuel (listed.setIfInBounds i true) a' w') a w

theorem wpAny_of_T : ∀ (fuel : Nat) (listed : Array Bool) (a : Act) (w : World), wpAnyT P md ops Q S z fuel listed a w → wpAny P md ops Q fuel listed a w
  | 0, _, _, _, h => h
  | fuel + 1, _, _, _, h => ⟨h.1, fun i hi => wpOp_mono (fun a' w' h' => wpAny_of_T fuel _ a' w' h'.2) (h.2 i hi)⟩

/-- Number z waits for number i, be it through others. -/
def waits (md : Region.Mode) (ops : Array Oper) (i : Nat) : Nat → Nat → Bool
  | 0, _ => false
  | n + 1, z => match ops[z]? with
    | some o => o.after.any fun e => Region.binds md e && (e.on == i || waits md ops i n e.on)
    | none => false

/-- What has come up has what it waits for behind it. -/
def Closed (md : Region.Mode) (ops : Array Oper) (L : Array Bool) : Prop := ∀ j o, ops[j]? = some o → L.getD j false = true → ∀ e ∈ o.after, Region.binds md e = true → L.getD e.on false = true
def closed (md : Region.Mode) (ops : Array Oper) (L : Array Bool) : Bool := (List.range ops.size).all fun j => !(L.getD j false) || match ops[j]? with
  | some o => o.after.all fun e => !(Region.binds md e) || L.getD e.on false
  | none => true

theorem closed_spec {L : Array Bool} (h : closed md ops L = true) : Closed md ops L := fun j o ho hj e he hb => by
  unfold closed at h
  have hlt := (Array.getElem?_eq_some_iff.1 ho).1
  have h1 := List.all_eq_true.1 h j (List.mem_range.2 hlt)
  rw [ho, hj] at h1
  simp only [Bool.not_true, Bool.false_or, Array.all_eq_true] at h1
  obtain ⟨k, hk, rfl⟩ := Array.mem_iff_getElem.1 he
  have h2 := h1 k hk
  rw [hb] at h2
  simpa using h2

theorem Closed.set {L : Array Bool} {j : Nat} (h : Closed md ops L) (hj : j ∈ Region.ready md ops L) : Closed md ops (L.setIfInBounds j true) := fun k o ho hk e he hb => by
  by_cases hjk : j = k
  · subst hjk
    obtain ⟨_, o', ho', hall⟩ := mem_ready.1 hj
    rw [ho] at ho'
    obtain rfl := Option.some.inj ho'
    exact getD_set_true (hall e he hb)
  · rw [getD_set_ne false hjk] at hk
    exact getD_set_true (h k o ho hk e he hb)

theorem waits_not {i : Nat} {L : Array Bool} (hc : Closed md ops L) (hL : L.getD i true = false) : ∀ (n z : Nat), waits md ops i n z = true → ¬ ∃ o, ops[z]? = some o ∧ ∀ e ∈ o.after, Region.binds md e = true → L.getD e.on false = true
  | 0, _, h => by simp [waits] at h
  | n + 1, z, h => by
    rintro ⟨o, ho, hall⟩
    unfold waits at h
    rw [ho] at h
    simp only [Array.any_eq_true] at h
    obtain ⟨k, hk, h2⟩ := h
    simp only [Bool.and_eq_true, Bool.or_eq_true, beq_iff_eq] at h2
    have h3 := hall o.after[k] (by simp) h2.1
    rcases h2.2 with h4 | h4
    · rw [h4] at h3
      rcases Nat.lt_or_ge i L.size with h' | h'
      · simp [h'] at hL h3; rw [hL] at h3; cases h3
      · simp [Array.getElem?_eq_none h'] at h3
    · refine waits_not hc hL n _ h4 ?_
      cases he : ops[o.after[k].on]? with
      | none =>
        exfalso
        cases n with
        | zero => simp [waits] at h4
        | succ n => unfold waits at h4; rw [he] at h4; cases h4
      | some o2 => exact ⟨o2, rfl, fun e he2 hb => hc _ o2 he h3 e he2 hb⟩

theorem waits_spec {i n : Nat} (h : waits md ops i n z = true) (L : Array Bool) (hc : Closed md ops L) (hL : L.getD i true = false) : z ∉ Region.ready md ops L := fun hz => by
  obtain ⟨_, o, ho, hall⟩ := mem_ready.1 hz
  exact waits_not hc hL n z h ⟨o, ho, hall⟩

/-- Number i may come up, and whatever may come up ahead of it does not touch it. -/
structure Ahead (md : Region.Mode) (ops : Array Oper) (i : Nat) (oi : Oper) (L : Array Bool) : Prop where
  up : i ∈ Region.ready md ops L
  shut : Closed md ops L
  apart : ∀ j oj, ops[j]? = some oj → j ≠ i → L.getD j true = false → (∀ e ∈ oj.after, Region.binds md e = true → e.on ≠ i) → oi.apart ops oj = true

/-- What may come up beside number i does not wait for it. -/
theorem Ahead.other {i j : Nat} {oi : Oper} {L : Array Bool} (h : Ahead md ops i oi L) (hj : j ∈ Region.ready md ops L) (hji : j ≠ i) : ∃ oj, ops[j]? = some oj ∧ oi.apart ops oj = true := by
  obtain ⟨hun, oj, hoj, hall⟩ := mem_ready.1 hj
  refine ⟨oj, hoj, h.apart j oj hoj hji hun fun e he hb => ?_⟩
  rintro rfl
  have hon := hall e he hb
  have hoff := (mem_ready.1 h.up).1
  by_cases hsz : e.on < L.size
  · rw [Array.getD_eq_getD_getElem?, Array.getElem?_eq_getElem hsz] at hon hoff
    simp only [Option.getD_some] at hon hoff
    rw [hon] at hoff
    cases hoff
  · rw [Array.getD_eq_getD_getElem?, Array.getElem?_eq_none (by omega)] at hon
    cases hon

theorem Ahead.step {i j : Nat} {oi : Oper} {L : Array Bool} (h : Ahead md ops i oi L) (hj : j ∈ Region.ready md ops L) (hji : j ≠ i) : Ahead md ops i oi (L.setIfInBounds j true) := by
  refine ⟨ready_mono h.up (fun e => hji e.symm), h.shut.set hj, fun k ok hk hki hun hno => h.apart k ok hk hki ?_ hno⟩
  rcases Decidable.em (j = k) with rfl | hne
  · exact (mem_ready.1 hj).1
  · rwa [getD_set_ne true hne] at hun

/-- It may be taken first. -/
theorem wpAnyT_first {i n : Nat} {oi : Oper} {v : Value} (hi : ops[i]? = some oi) (hsel : ∀ (j : Nat) (o : Oper) cs b, ops[j]? = some o → o.op ≠ .select cs b) (hw : waits md ops i n z = true) (hQ : ∀ c a w, Q (.panic c) (a.put oi.dst v) w → Q (.panic c) a w) :
    ∀ (fuel : Nat) {L : Array Bool} {a : Act} {w : World}, Ahead md ops i oi L → YieldsIf P ops S oi v a → S w → wpAnyT P md ops Q S z fuel (L.setIfInBounds i true) (a.put oi.dst v) w → wpAnyT P md ops Q S z (fuel + 1) L a w := by
  have self : ∀ {fuel : Nat} {L : Array Bool} {a : Act} {w : World}, YieldsIf P ops S oi v a → S w → wpAnyT P md ops Q S z fuel (L.setIfInBounds i true) (a.put oi.dst v) w → wpOp P ops Q i (fun a' w' => (i ≠ z → S w') ∧ wpAnyT P md ops Q S z fuel (L.setIfInBounds i true) a' w') a w := fun hy hS H => hy.wpOp hi hS ⟨fun _ => hS, H⟩
  have some_up : ∀ {L : Array Bool}, Ahead md ops i oi L → Region.ready md ops L ≠ [] := fun h e => by have := h.up; rw [e] at this; cases this
  intro fuel
  induction fuel with
  | zero =>
    intro L a w hA hy hS H
    refine ⟨fun e => absurd e (some_up hA), fun j hj => ?_⟩
    rcases Decidable.em (j = i) with rfl | hji
    · exact self hy hS H
    · have hin := ready_mono hj hji
      rw [H.1] at hin
      cases hin
  | succ fuel ih =>
    intro L a w hA hy hS H
    refine ⟨fun e => absurd e (some_up hA), fun j hj => ?_⟩
    rcases Decidable.em (j = i) with rfl | hji
    · exact self hy hS H
    · obtain ⟨oj, hoj, hap⟩ := hA.other hj hji
      have hjz : j ≠ z := fun e => waits_spec hw L hA.shut (mem_ready.1 hA.up).1 (e ▸ hj)
      have key := wpOp_putIf hoj hap (fun cs b => hsel i oi cs b hi) (fun cs b => hsel j oj cs b hoj) hQ hy (H.2 j (ready_mono hj hji))
      exact wpOp_mono (fun a' w' k => ⟨k.2.1, ih (hA.step hj hji) k.1 (k.2.1 hjz) (by rw [Array.setIfInBounds_comm _ _ hji]; exact k.2.2)⟩) key

/-- An operation that yields its value in every world that meets S is taken first; its slot is named. -/
theorem take_T {i : Nat} {oi : Oper} {d : Nat} {v : Value} {fuel : Nat} {listed : Array Bool} {tmps : Array Value} {ds : List _} {w : World} (hi : ops[i]? = some oi) (hd : oi.dst = some d)
    (hs : Region.noSelect ops = true) (hf : Region.free md ops listed i = true) (hr : (Region.ready md ops listed).contains i = true) (hc : closed md ops listed = true) (hw : waits md ops i 12 z = true)
    (hQ : ∀ c a w, Q (.panic c) (a.put oi.dst v) w → Q (.panic c) a w) (hy : YieldsIf P ops S oi v { tmps := tmps, defers := ds }) (hS : S w)
    (h : wpAnyT P md ops Q S z fuel (listed.setIfInBounds i true) { tmps := tmps.setIfInBounds d v, defers := ds } w) : wpAnyT P md ops Q S z (fuel + 1) listed { tmps := tmps, defers := ds } w := by
  refine wpAnyT_first hi (Region.noSelect_spec hs) hw hQ fuel ⟨by simpa using hr, closed_spec hc, Region.free_spec hi hf⟩ hy hS ?_
  rw [hd]
  exact h

def AllReadyT (P : Program) (md : Region.Mode) (ops : Array Oper) (Q : Exit → Act → World → Prop) (S : World → Prop) (z fuel : Nat) (listed : Array Bool) (a : Act) (w : World) (rs : List Nat) : Prop :=
  ∀ i ∈ rs, wpOp P ops Q i (fun a' w' => (i ≠ z → S w') ∧ wpAnyT P md ops Q S z fuel (listed.setIfInBounds i true) a' w') a w
theorem AllReadyT.nil {fuel : Nat} {listed : Array Bool} {a : Act} {w : World} : AllReadyT P md ops Q S z fuel listed a w [] := fun _ h => by cases h
theorem AllReadyT.cons {fuel : Nat} {listed : Array Bool} {a : Act} {w : World} {i : Nat} {o : Oper} {rs : List Nat} (ho : ops[i]? = some o)
    (h : ∀ K' : Act → World → Prop, Shut (∀ a w, (i ≠ z → S w) → wpAnyT P md ops Q S z fuel (listed.setIfInBounds i true) a w → K' a w) → if Region.wanted o (yielded ops a.tmps) = true then Oper.wp P o a w K' Q else K' (a.put o.dst undef) w)
    (hs : AllReadyT P md ops Q S z fuel listed a w rs) : AllReadyT P md ops Q S z fuel listed a w (i :: rs) := fun j hj => by
  rcases List.mem_cons.1 hj with rfl | hj
  · exact wpOp_step ho (fun K' hK => h K' (fun a w hS hW => hK a w ⟨hS, hW⟩))
  · exact hs j hj
theorem wpAnyT_ready {rs : List Nat} {fuel : Nat} {listed : Array Bool} {a : Act} {w : World} (hr : Region.ready md ops listed = rs) (hne : rs ≠ [])
    (h : AllReadyT P md ops Q S z fuel listed a w rs) : wpAnyT P md ops Q S z (fuel + 1) listed a w :=
  ⟨fun h0 => absurd (hr ▸ h0) hne, hr ▸ h⟩
theorem wpAnyT_done {listed : Array Bool} {a : Act} {w : World} (hr : Region.ready md ops listed = []) (h : Q .normal a w) :
    ∀ fuel, wpAnyT P md ops Q S z fuel listed a w
  | 0 => ⟨hr, h⟩
  | _ + 1 => ⟨fun _ => h, by rw [hr]; simp⟩
/-- The beginning. -/
theorem wp_region_T {id : Nat} {a : Act} {w : World} (S : World → Prop) (z : Nat) (hm : P.follows .mixedOrders = true)
    (h : wpAnyT P .any ops Q S z ops.size (Array.replicate ops.size false) a w.drew) : (Code.region id ops true).wp P Q a w :=
  wp_region_any hm (wpAny_of_T _ _ _ _ h)
end
end Go.Proofs.YtjimemnkmpapgaaGreatDoor
namespace Go.Proofs.YtjimemnkmpapgaaGreatDoor
open Go.RowKit

section
variable {P : Program} {ops : Array Oper} {Q : Exit → Act → World → Prop} {md : Region.Mode} {S : World → Prop} {zs : List Nat}

/-- None of zs has come up yet. -/
def fresh (zs : List Nat) (L : Array Bool) : Prop := ∀ z ∈ zs, L.getD z false = false
theorem fresh.set {L : Array Bool} {i : Nat} (h : fresh zs L) (hi : i ∉ zs) : fresh zs (L.setIfInBounds i true) := fun z hz => by
  have hne : i ≠ z := fun e => hi (by rw [e]; exact hz)
  rw [getD_set_ne false hne]
  exact h z hz
theorem fresh.of_set {L : Array Bool} {j : Nat} (h : fresh zs (L.setIfInBounds j true)) (hj : L.getD j true = false) : j ∉ zs ∧ fresh zs L := by
  have hlt : j < L.size := by
    rcases Nat.lt_or_ge j L.size with h' | h'
    · exact h'
    · rw [Array.getD_eq_getD_getElem?, Array.getElem?_eq_none h'] at hj
      cases hj
  have hno : j ∉ zs := fun e => by
    have h1 := h j e
    rw [Array.getD_eq_getD_getElem?, Array.getElem?_setIfInBounds, if_pos rfl, if_pos hlt] at h1
    cases h1
  refine ⟨hno, fun z hz => ?_⟩
  have h1 := h z hz
  have hne : j ≠ z := fun e => hno (by rw [e]; exact hz)
  rwa [getD_set_ne false hne] at h1

/-- Whatever order is picked from here on; S holds till one of zs comes up. -/
def wpAnyU (P : Program) (md : Region.Mode) (ops : Array Oper) (Q : Exit → Act → World → Prop) (S : World → Prop) (zs : List Nat) : Nat → Array Bool → Act → World → Prop
  | 0, listed, a, w => Region.ready md ops listed = [] ∧ Q .normal a w
  | fuel + 1, listed, a, w =>
    (Region.ready md ops listed = [] → Q .normal a w) ∧
    ∀ i ∈ Region.ready md ops listed, wpOp P ops Q i (fun a' w' => (i ∉ zs → fresh zs listed → S w') ∧ wpAnyU P md ops Q S zs fuel (listed.setIfInBounds i true) a' w') a w

theorem wpAny_of_U : ∀ (fuel : Nat) (listed : Array Bool) (a : Act) (w : World), wpAnyU P md ops Q S zs fuel listed a w → wpAny P md ops Q fuel listed a w
  | 0, _, _, _, h => h
  | fuel + 1, _, _, _, h => ⟨h.1, fun i hi => wpOp_mono (fun a' w' h' => wpAny_of_U fuel _ a' w' h'.2) (h.2 i hi)⟩

/-- What waits for number i has not come up. -/
theorem waits_fresh {i n : Nat} {L : Array Bool} (hw : ∀ z ∈ zs, waits md ops i n z = true) (hc : Closed md ops L) (hi : L.getD i true = false) : fresh zs L := fun z hz => by
  cases h : L.getD z false with
  | false => rfl
  | true =>
    exfalso
    have h1 := hw z hz
    cases ho : ops[z]? with
    | none =>
      cases n with
      | zero => simp [waits] at h1
      | succ n => unfold waits at h1; rw [ho] at h1; cases h1
    | some o => exact waits_not hc hi n z h1 ⟨o, ho, fun e he hb => hc z o ho h e he hb⟩

/-- It may be taken first: a read that all of zs wait for. -/
theorem wpAnyU_first {i n : Nat} {oi : Oper} {v : Value} (hi : ops[i]? = some oi) (hsel : ∀ (j : Nat) (o : Oper) cs b, ops[j]? = some o → o.op ≠ .select cs b) (hw : ∀ z ∈ zs, waits md ops i n z = true) (hiz : i ∉ zs) (hQ : ∀ c a w, Q (.panic c) (a.put oi.dst v) w → Q (.panic c) a w) :
    ∀ (fuel : Nat) {L : Array Bool} {a : Act} {w : World}, Ahead md ops i oi L → YieldsIf P ops S oi v a → S w → wpAnyU P md ops Q S zs fuel (L.setIfInBounds i true) (a.put oi.dst v) w → wpAnyU P md ops Q S zs (fuel + 1) L a w := by
  have self : ∀ {fuel : Nat} {L : Array Bool} {a : Act} {w : World}, YieldsIf P ops S oi v a → S w → wpAnyU P md ops Q S zs fuel (L.setIfInBounds i true) (a.put oi.dst v) w → wpOp P ops Q i (fun a' w' => (i ∉ zs → fresh zs L → S w') ∧ wpAnyU P md ops Q S zs fuel (L.setIfInBounds i true) a' w') a w := fun hy hS H => hy.wpOp hi hS ⟨fun _ _ => hS, H⟩
  have some_up : ∀ {L : Array Bool}, Ahead md ops i oi L → Region.ready md ops L ≠ [] := fun h e => by have := h.up; rw [e] at this; cases this
  intro fuel
  induction fuel with
  | zero =>
    intro L a w hA hy hS H
    refine ⟨fun e => absurd e (some_up hA), fun j hj => ?_⟩
    rcases Decidable.em (j = i) with rfl | hji
    · exact self hy hS H
    · have hin := ready_mono hj hji
      rw [H.1] at hin
      cases hin
  | succ fuel ih =>
    intro L a w hA hy hS H
    refine ⟨fun e => absurd e (some_up hA), fun j hj => ?_⟩
    rcases Decidable.em (j = i) with rfl | hji
    · exact self hy hS H
    · obtain ⟨oj, hoj, hap⟩ := hA.other hj hji
      have hjz : j ∉ zs := fun e => waits_spec (hw j e) L hA.shut (mem_ready.1 hA.up).1 hj
      have hfr : fresh zs L := waits_fresh hw hA.shut (mem_ready.1 hA.up).1
      have key := wpOp_putIf hoj hap (fun cs b => hsel i oi cs b hi) (fun cs b => hsel j oj cs b hoj) hQ hy (H.2 j (ready_mono hj hji))
      exact wpOp_mono (fun a' w' k => ⟨fun h1 h2 => k.2.1 h1 (h2.set hiz), ih (hA.step hj hji) k.1 (k.2.1 hjz (hfr.set hiz)) (by rw [Array.setIfInBounds_comm _ _ hji]; exact k.2.2)⟩) key

/-- It may be taken first: what reads no memory. -/
theorem wpAnyU_pure {i : Nat} {oi : Oper} {v : Value} (hi : ops[i]? = some oi) (hsel : ∀ (j : Nat) (o : Oper) cs b, ops[j]? = some o → o.op ≠ .select cs b) (hiz : i ∉ zs) (hQ : ∀ c a w, Q (.panic c) (a.put oi.dst v) w → Q (.panic c) a w) :
    ∀ (fuel : Nat) {L : Array Bool} {a : Act} {w : World}, Ahead md ops i oi L → YieldsIf P ops (fun _ => True) oi v a → (fresh zs L → S w) → wpAnyU P md ops Q S zs fuel (L.setIfInBounds i true) (a.put oi.dst v) w → wpAnyU P md ops Q S zs (fuel + 1) L a w := by
  have self : ∀ {fuel : Nat} {L : Array Bool} {a : Act} {w : World}, YieldsIf P ops (fun _ => True) oi v a → (fresh zs L → S w) → wpAnyU P md ops Q S zs fuel (L.setIfInBounds i true) (a.put oi.dst v) w → wpOp P ops Q i (fun a' w' => (i ∉ zs → fresh zs L → S w') ∧ wpAnyU P md ops Q S zs fuel (L.setIfInBounds i true) a' w') a w := fun hy hS H => hy.wpOp hi trivial ⟨fun _ => hS, H⟩
  have some_up : ∀ {L : Array Bool}, Ahead md ops i oi L → Region.ready md ops L ≠ [] := fun h e => by have := h.up; rw [e] at this; cases this
  intro fuel
  induction fuel with
  | zero =>
    intro L a w hA hy hS H
    refine ⟨fun e => absurd e (some_up hA), fun j hj => ?_⟩
    rcases Decidable.em (j = i) with rfl | hji
    · exact self hy hS H
    · have hin := ready_mono hj hji
      rw [H.1] at hin
      cases hin
  | succ fuel ih =>
    intro L a w hA hy hS H
    refine ⟨fun e => absurd e (some_up hA), fun j hj => ?_⟩
    rcases Decidable.em (j = i) with rfl | hji
    · exact self hy hS H
    · obtain ⟨oj, hoj, hap⟩ := hA.other hj hji
      have key := wpOp_putIf hoj hap (fun cs b => hsel i oi cs b hi) (fun cs b => hsel j oj cs b hoj) hQ hy (H.2 j (ready_mono hj hji))
      refine wpOp_mono (fun a' w' k => ⟨fun h1 h2 => k.2.1 h1 (h2.set hiz), ih (hA.step hj hji) k.1 (fun h2 => ?_) (by rw [Array.setIfInBounds_comm _ _ hji]; exact k.2.2)⟩) key
      have h3 := h2.of_set (mem_ready.1 hj).1
      exact k.2.1 h3.1 (h3.2.set hiz)

/-- A read that all of zs wait for is taken first; its slot is named. -/
theorem take_U {i : Nat} {oi : Oper} {d : Nat} {v : Value} {fuel : Nat} {listed : Array Bool} {tmps : Array Value} {ds : List _} {w : World} (hi : ops[i]? = some oi) (hd : oi.dst = some d)
    (hs : Region.noSelect ops = true) (hf : Region.free md ops listed i = true) (hr : (Region.ready md ops listed).contains i = true) (hc : closed md ops listed = true) (hw : (zs.all fun z => waits md ops i 12 z) = true) (hiz : zs.contains i = false)
    (hQ : ∀ c a w, Q (.panic c) (a.put oi.dst v) w → Q (.panic c) a w) (hy : YieldsIf P ops S oi v { tmps := tmps, defers := ds }) (hS : S w)
    (h : wpAnyU P md ops Q S zs fuel (listed.setIfInBounds i true) { tmps := tmps.setIfInBounds d v, defers := ds } w) : wpAnyU P md ops Q S zs (fuel + 1) listed { tmps := tmps, defers := ds } w := by
  refine wpAnyU_first hi (Region.noSelect_spec hs) (List.all_eq_true.1 hw) (by simpa using hiz) hQ fuel ⟨by simpa using hr, closed_spec hc, Region.free_spec hi hf⟩ hy hS ?_
  rw [hd]
  exact h
/-- What reads no memory is taken first; its slot is named. -/
theorem take_P {i : Nat} {oi : Oper} {d : Nat} {v : Value} {fuel : Nat} {listed : Array Bool} {tmps : Array Value} {ds : List _} {w : World} (hi : ops[i]? = some oi) (hd : oi.dst = some d)
    (hs : Region.noSelect ops = true) (hf : Region.free md ops listed i = true) (hr : (Region.ready md ops listed).contains i = true) (hc : closed md ops listed = true) (hiz : zs.contains i = false)
    (hQ : ∀ c a w, Q (.panic c) (a.put oi.dst v) w → Q (.panic c) a w) (hy : YieldsIf P ops (fun _ => True) oi v { tmps := tmps, defers := ds }) (hS : fresh zs listed → S w)
    (h : wpAnyU P md ops Q S zs fuel (listed.setIfInBounds i true) { tmps := tmps.setIfInBounds d v, defers := ds } w) : wpAnyU P md ops Q S zs (fuel + 1) listed { tmps := tmps, defers := ds } w := by
  refine wpAnyU_pure hi (Region.noSelect_spec hs) (by simpa using hiz) hQ fuel ⟨by simpa using hr, closed_spec hc, Region.free_spec hi hf⟩ hy hS ?_
  rw [hd]
  exact h

def AllReadyU (P : Program) (md : Region.Mode) (ops : Array Oper) (Q : Exit → Act → World → Prop) (S : World → Prop) (zs : List Nat) (fuel : Nat) (listed : Array Bool) (a : Act) (w : World) (rs : List Nat) : Prop :=
  ∀ i ∈ rs, wpOp P ops Q i (fun a' w' => (i ∉ zs → fresh zs listed → S w') ∧ wpAnyU P md ops Q S zs fuel (listed.setIfInBounds i true) a' w') a w
theorem AllReadyU.nil {fuel : Nat} {listed : Array Bool} {a : Act} {w : World} : AllReadyU P md ops Q S zs fuel listed a w [] := fun _ h => by cases h
theorem AllReadyU.cons {fuel : Nat} {listed : Array Bool} {a : Act} {w : World} {i : Nat} {o : Oper} {rs : List Nat} (ho : ops[i]? = some o)
    (h : ∀ K' : Act → World → Prop, Shut (∀ a w, (i ∉ zs → fresh zs listed → S w) → wpAnyU P md ops Q S zs fuel (listed.setIfInBounds i true) a w → K' a w) → if Region.wanted o (yielded ops a.tmps) = true then Oper.wp P o a w K' Q else K' (a.put o.dst undef) w)
    (hs : AllReadyU P md ops Q S zs fuel listed a w rs) : AllReadyU P md ops Q S zs fuel listed a w (i :: rs) := fun j hj => by
  rcases List.mem_cons.1 hj with rfl | hj
  · exact wpOp_step ho (fun K' hK => h K' (fun a w hS hW => hK a w ⟨hS, hW⟩))
  · exact hs j hj
theorem wpAnyU_ready {rs : List Nat} {fuel : Nat} {listed : Array Bool} {a : Act} {w : World} (hr : Region.ready md ops listed = rs) (hne : rs ≠ [])
    (h : AllReadyU P md ops Q S zs fuel listed a w rs) : wpAnyU P md ops Q S zs (fuel + 1) listed a w :=
  ⟨fun h0 => absurd (hr ▸ h0) hne, hr ▸ h⟩
theorem wpAnyU_done {listed : Array Bool} {a : Act} {w : World} (hr : Region.ready md ops listed = []) (h : Q .normal a w) :
    ∀ fuel, wpAnyU P md ops Q S zs fuel listed a w
  | 0 => ⟨hr, h⟩
  | _ + 1 => ⟨fun _ => h, by rw [hr]; simp⟩
/-- The beginning. -/
theorem wp_region_U {id : Nat} {a : Act} {w : World} (S : World → Prop) (zs : List Nat) (hm : P.follows .mixedOrders = true)
    (h : wpAnyU P .any ops Q S zs ops.size (Array.replicate ops.size false) a w.drew) : (Code.region id ops true).wp P Q a w :=
  wp_region_any hm (wpAny_of_U _ _ _ _ h)
end
end Go.Proofs.YtjimemnkmpapgaaGreatDoor
