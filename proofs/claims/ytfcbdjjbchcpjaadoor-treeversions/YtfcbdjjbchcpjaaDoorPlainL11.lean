/- What a Create does, in the landed code's steps; what path's calls answer in a tree's words. -/
import Derived.Test.YtfcbdjjbchcpjaaDoorTk11
namespace Go.Proofs.YtfcbdjjbchcpjaaDoor.Tq
open Kq
/-- Where a Create would make its node; what keeps it from there. -/
def placeT (t : Tr) (o : O) : ByteArray × Int :=
  match up o.path with
  | none => (o.path, 0)
  | some u => match find t.l u with
    | none => (⟨#[]⟩, 4)
    | some m => if m.owner ≠ 0 then (⟨#[]⟩, 8) else if 2 ≤ o.flags then (match num o.path m.next with | none => (⟨#[]⟩, 1) | some q => (q, 0)) else (o.path, 0)
def mayT (t : Tr) (p : ByteArray) : Int := match find t.l p with
  | some _ => 5
  | none => if t.room ≤ (t.l.length : Int) then 9 else 0
def ownT (o : O) (s : Int) : Int := if o.flags = 1 ∨ o.flags = 3 then s else 0
/-- The Parent that is there. -/
def abv (l : List En) (p : ByteArray) : Option (ByteArray × Kn) := match up p with
  | none => none
  | some u => (find l u).map fun n => (u, n)
theorem make_may {t : Tr} {u : Option ByteArray} {p d : ByteArray} {own z : Int} : makeAt t u p own z d = if mayT t p ≠ 0 then (fail (mayT t p), t) else (told p ⟨#[]⟩ [] (new z own d), { t with l := ins (named t.l u p) p (new z own d) }) := by
  unfold makeAt mayT
  cases find t.l p with
  | some n => simp
  | none =>
    simp only []
    by_cases h : t.room ≤ (t.l.length : Int)
    · simp [h]
    · simp [h]
theorem create_no {t : Tr} {o : O} {s z : Int} (h : (placeT t o).2 ≠ 0) : create t o s z = (fail (placeT t o).2, t) := by
  unfold placeT at h ⊢
  unfold create
  simp only []
  cases hu : up o.path with
  | none => rw [hu] at h; exact absurd rfl h
  | some u =>
    rw [hu] at h
    simp only [] at h ⊢
    cases hf : find t.l u with
    | none => rfl
    | some m =>
      rw [hf] at h
      simp only [] at h ⊢
      by_cases ho : m.owner ≠ 0
      · rw [if_pos ho, if_pos ho]
      · rw [if_neg ho] at h ⊢
        rw [if_neg ho]
        by_cases h2 : 2 ≤ o.flags
        · rw [if_pos h2] at h ⊢
          rw [if_pos h2]
          cases hn : num o.path m.next with
          | none => rfl
          | some q => rw [hn] at h; exact absurd rfl h
        · rw [if_neg h2] at h
          exact absurd rfl h
theorem create_may {t : Tr} {o : O} {s z : Int} (hg : Pl.goodB o.path.data.toList = true) (h : (placeT t o).2 = 0) : create t o s z = makeAt t (up (placeT t o).1) (placeT t o).1 (ownT o s) z o.data ∧ Pl.goodB (placeT t o).1.data.toList = true := by
  unfold placeT at h ⊢
  unfold create ownT
  simp only []
  cases hu : up o.path with
  | none => simp only [hu]; exact ⟨trivial, hg⟩
  | some u =>
    rw [hu] at h
    simp only [] at h ⊢
    cases hf : find t.l u with
    | none => rw [hf] at h; cases h
    | some m =>
      rw [hf] at h
      simp only [] at h ⊢
      by_cases ho : m.owner ≠ 0
      · rw [if_pos ho] at h; cases h
      · rw [if_neg ho] at h ⊢
        rw [if_neg ho]
        by_cases h2 : 2 ≤ o.flags
        · rw [if_pos h2] at h ⊢
          rw [if_pos h2]
          cases hn : num o.path m.next with
          | none => rw [hn] at h; cases h
          | some q =>
            simp only []
            rw [up_num hg hn, hu]
            exact ⟨rfl, num_ok hn⟩
        · rw [if_neg h2, if_neg h2]
          simp only []
          rw [hu]
          exact ⟨rfl, hg⟩
theorem up_ne {p u : ByteArray} (hp : Pl.goodB p.data.toList = true) (h : up p = some u) : u ≠ p := fun e => by
  obtain ⟨h1, _⟩ := up_sub hp h
  have h2 := congrArg (fun x : ByteArray => x.data.toList.length) h1
  unfold sub at h2
  simp only [tb_data, e, List.length_append, List.length_cons] at h2
  omega
/-- A node is made, and then named; it is the same the other way round. -/
theorem made_abv {t : Tr} (hf : Fine11 t) {p : ByteArray} {n : Kn} (hp : Pl.goodB p.data.toList = true) (hn : find t.l p = none) : ins (named t.l (up p) p) p n = match abv (ins t.l p n) p with
    | none => ins t.l p n
    | some um => set (ins t.l p n) um.1 (add um.2 (nm p)) := by
  unfold named abv
  cases hu : up p with
  | none => rfl
  | some u =>
    have hne := up_ne hp hu
    simp only []
    rw [find_ins n hf.rise hn, if_neg hne]
    cases find t.l u with
    | none => rfl
    | some m =>
      simp only [Option.map_some]
      rw [set_ins (Ne.symm hne)]
theorem gone_abv {t : Tr} {p : ByteArray} : orphan (del t.l p) p = match abv (del t.l p) p with
    | none => del t.l p
    | some um => set (del t.l p) um.1 (remove um.2 (nm p)) := by
  unfold orphan abv
  cases up p with
  | none => rfl
  | some u =>
    simp only []
    cases find (del t.l p) u with
    | none => rfl
    | some m => rfl
theorem abv_some {l : List En} {p : ByteArray} {um : ByteArray × Kn} (h : abv l p = some um) : up p = some um.1 ∧ find l um.1 = some um.2 := by
  unfold abv at h
  cases hu : up p with
  | none => rw [hu] at h; cases h
  | some u =>
    rw [hu] at h
    simp only [] at h
    cases hf : find l u with
    | none => rw [hf] at h; cases h
    | some m =>
      rw [hf] at h
      simp only [Option.map_some, Option.some.injEq] at h
      rw [← h]
      exact ⟨rfl, hf⟩
end Go.Proofs.YtfcbdjjbchcpjaaDoor.Tq
namespace Go.Proofs.YtfcbdjjbchcpjaaDoor
open Go.RowKit
theorem tb_of2 {x : ByteArray} {l : List UInt8} (h : x.data.toList = l) : x = Tq.tb l := by rw [← h, Tq.tb_back]
/-- path.Parent, Name, Number. -/
theorem parent_up (p : ByteArray) (w : World) (hS : Pa.Std w) (hg : Pl.goodB p.data.toList = true) :
    Calls Tryd.prog 40 #[.string p] w fun e w' => Below w.heap.size w w' ∧ (∀ u, Tq.up p = some u → e = .returned (.tuple #[.string u, .bool true])) ∧ (Tq.up p = none → e = .returned (.tuple #[.string ⟨#[]⟩, .bool false])) := by
  by_cases h2 : 2 ≤ (Pl.parts p.data.toList).length
  · refine (Pa.parent_yes p w hS hg h2).mono ?_
    rintro e w' ⟨x, rfl, hx, hb⟩
    refine ⟨hb, fun u hu => ?_, fun hu => ?_⟩
    · unfold Tq.up at hu
      rw [if_pos h2] at hu
      rw [tb_of2 hx, ← Option.some.inj hu]
    · unfold Tq.up at hu
      rw [if_pos h2] at hu
      cases hu
  · refine (Pa.parent_no p w hS (good_max hg) (by omega)).mono ?_
    rintro e w' ⟨rfl, hb⟩
    refine ⟨hb, fun u hu => ?_, fun _ => rfl⟩
    unfold Tq.up at hu
    rw [if_neg h2] at hu
    cases hu
theorem name_nm (p : ByteArray) (w : World) (hS : Pa.Std w) (hg : Pl.goodB p.data.toList = true) :
    Calls Tryd.prog 28 #[.string p] w fun e w' => e = .returned (.string (Tq.nm p)) ∧ Below w.heap.size w w' := by
  refine (Pa.name_any p w hS hg).mono ?_
  rintro e w' ⟨x, rfl, hx, hb⟩
  rw [tb_of2 hx]
  exact ⟨rfl, hb⟩
theorem number_num (p : ByteArray) (k : Int) (w : World) (hS : Pa.Std w) (hg : Pl.goodB p.data.toList = true) :
    Calls Tryd.prog 47 #[.string p, .int .i64 k] w fun e w' => Below w.heap.size w w' ∧ (∀ q, Tq.num p k = some q → e = .returned (.tuple #[.string q, .int .i64 0])) ∧ (Tq.num p k = none → e = .returned (.tuple #[.string ⟨#[]⟩, .int .i64 1])) := by
  by_cases hk : 0 ≤ k ∧ k ≤ 2147483647
  · refine (Pa.number_any p k w hS hg hk.1 hk.2).mono ?_
    rintro e w' (⟨x, rfl, hx, h1, hb⟩ | ⟨rfl, h1, hb⟩)
    · have e1 : Tq.num p k = some x := by unfold Tq.num; rw [if_pos ⟨hk.1, hk.2, h1⟩, tb_of2 hx]
      refine ⟨hb, fun q hq => ?_, fun hq => ?_⟩
      · rw [e1] at hq
        rw [Option.some.inj hq]
      · rw [e1] at hq
        cases hq
    · have e1 : Tq.num p k = none := by unfold Tq.num; rw [if_neg (by rw [h1]; simp)]
      refine ⟨hb, fun q hq => ?_, fun _ => rfl⟩
      rw [e1] at hq
      cases hq
  · refine (Pa.number_no p k w hS (good_max hg) (Or.inr (by omega))).mono ?_
    rintro e w' ⟨rfl, hb⟩
    refine ⟨hb, fun q hq => ?_, fun _ => rfl⟩
    unfold Tq.num at hq
    rw [if_neg (by omega)] at hq
    cases hq
end Go.Proofs.YtfcbdjjbchcpjaaDoor
