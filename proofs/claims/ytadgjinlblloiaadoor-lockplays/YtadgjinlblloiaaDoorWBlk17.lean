/- What the landed Blocks answers. -/
import Derived.Test.YtadgjinlblloiaaDoorWSm17
import Derived.BigQuiet
import Derived.Deep.QuietTactic
namespace Go.Proofs.YtadgjinlblloiaaDoor
open Go.RowKit

/-- What region 4 of Blocks leans on. -/
structure Bk17 (w : World) (q : Nat) (s : Lk.St) (who : Int) (p u : ByteArray) (E1 E2 : Bool) (n1 n2 : Nat) (c d : Nat) : Prop where
  o1 : ∀ n, Calls Tryd.prog 29 #[dptr q, .int .i64 who, .string p] (w.drewN n) fun e w' => e = .returned (.bool E1) ∧ w' = w.drewN n
  o2 : ∀ n, Calls Tryd.prog 29 #[dptr q, .int .i64 who, .string u] (w.drewN n) fun e w' => e = .returned (.bool E2) ∧ w' = w.drewN n
  l1 : ∀ n, (Instr.lookup 50 (.map (some c)) (.string p) false).run Tryd.prog (w.drewN n) = .ok (.int .i64 (n1 : Int)) (w.drewN n)
  l2 : ∀ n, (Instr.lookup 51 (.map (some d)) (.agg #[.string p, .int .i64 who]) false).run Tryd.prog (w.drewN n) = .ok (.int .i64 (n2 : Int)) (w.drewN n)
  c2 : w.cell? ⟨q, 2, none⟩ = some (.map (some c))
  c3 : w.cell? ⟨q, 3, none⟩ = some (.map (some d))
section
variable {w : World} {q a b c d : Nat} {s : Lk.St} {F : Nat → Prop} {fh fo fu fs : Lit → Option Value} {V : Int → Value}
theorem bk_of17 (h : LkU w q s s F a b c d fh fo fu fs V) (hu : IsU s fu) (hs : IsS s fs) {who : Int} (hw : I64 who) {p : ByteArray} (hp : p.size ≤ maxLen) : Bk17 w q s who p (Lk.upN p) (Lk.others s who p) (Lk.others s who (Lk.upN p)) (Lk.kids s p) (Lk.mine s p who) c d :=
  ⟨fun n => isAnothers_any17 (h.drewN n) who p hp, fun n => isAnothers_any17 (h.drewN n) who _ (Lk.upN_size hp),
    fun n => by rw [(h.drewN n).mu.look keyedP Tryd.underlying50 (zeroN17 _) (key_p hp), hu.at_, cnt_getD],
    fun n => by
      have e := (h.drewN n).ms.look keyedS Tryd.underlying51 (zeroN17 _) (key_s hp hw)
      rw [hs.at_ p who hp hw, cnt_getD] at e
      exact e, h.c2, h.c3⟩

set_option maxRecDepth 20000 in
set_option maxHeartbeats 4000000 in
theorem blocks_any17 {m : Nat} (h : LkU w q s s F a b c d fh fo fu fs V) (hu : IsU s fu) (hs : IsS s fs) (hf : Lk.Fine m s) (hS : Pa.Std w) (who : Int) (hw : I64 who) (p : ByteArray) (hp : p.size ≤ maxLen) :
    Calls Tryd.prog 14 #[dptr q, .int .i64 who, .string p] w fun e w' => e = .returned (.bool (Lk.blocks s who p)) ∧ Below w.heap.size w w' := by
  have HH : Hid (LkU w q s s F a b c d fh fo fu fs V ∧ IsU s fu ∧ IsS s fs ∧ Pa.Std w ∧ I64 who ∧ p.size ≤ maxLen) := ⟨h, hu, hs, hS, hw, hp⟩
  obtain ⟨R, hR⟩ : ∃ R, R = Lk.blocks s who p := ⟨_, rfl⟩
  rw [← hR]
  rw [Lk.blocks_counts hf] at hR
  clear h hu hs hf hS hw hp
  cases hg : Lk.good p with
  | false =>
    rw [hg, Bool.false_and] at hR
    subst hR
    have HN : Hid (Calls Tryd.prog 24 #[.string p] w fun e w' => e = .returned (.bool true) ∧ Below w.heap.size w w') := by
      have h1 := isNone_any17 p w HH.out.2.2.2.1 HH.out.2.2.2.2.2
      rw [hg] at h1
      exact h1
    clear hg
    go_enter Tryd.func14, Tryd.ntmps14
    go_wp2_with fail
    refine HN.out.mono ?_
    rintro e w1 ⟨rfl, hb⟩
    have HB : Hid (Below w.heap.size w w1) := hb
    clear hb
    go_wp2
    go_ret
    exact ⟨rfl, HB.out⟩
  | true =>
    rw [hg, Bool.true_and] at hR
    have HN : Hid (Calls Tryd.prog 24 #[.string p] w fun e w' => e = .returned (.bool false) ∧ Below w.heap.size w w') := by
      have h1 := isNone_any17 p w HH.out.2.2.2.1 HH.out.2.2.2.2.2
      rw [hg] at h1
      exact h1
    clear hg
    go_enter Tryd.func14, Tryd.ntmps14
    go_wp2_with fail
    refine HN.out.mono ?_
    rintro e w1 ⟨rfl, hb⟩
    have HB : Hid (Below w.heap.size w w1) := hb
    clear hb
    go_wp2_with fail
    refine (parent_any17 p w1 (HH.out.2.2.2.1.below HB.out) HH.out.2.2.2.2.2).mono ?_
    rintro e w2 ⟨rfl, hb⟩
    have HB2 : Hid (Below w.heap.size w w2) := HB.out.trans (hb.mono HB.out.size)
    clear hb
    obtain ⟨un, hun⟩ : ∃ z, z = Lk.under p := ⟨_, rfl⟩
    rw [← hun]
    have hk := bk_of17 (HH.out.1.below HB2.out) HH.out.2.1 HH.out.2.2.1 HH.out.2.2.2.2.1 HH.out.2.2.2.2.2
    generalize Lk.upN p = u at *
    generalize Lk.others s who p = E1 at *
    generalize Lk.others s who u = E2 at *
    generalize Lk.kids s p = n1 at *
    generalize Lk.mine s p who = n2 at *
    have HK : Hid (Bk17 w2 q s who p u E1 E2 n1 n2 c d) := hk
    have t2 := hk.c2
    have t3 := hk.c3
    have l1 := hk.l1
    have l2 := hk.l2
    clear hk hun HN HB
    cases E1 with
    | true =>
      rw [Bool.true_or, Bool.true_or] at hR
      subst hR
      go_wp2
      go_quiet (first | (go_at_call 29; with_reducible exact Calls.quiet_of_same (HK.out.o1 _)))
      go_wp2
      go_ret
      exact ⟨rfl, below_drewN HB2.out _⟩
    | false =>
      cases E2 with
      | true =>
        rw [Bool.false_or, Bool.true_or] at hR
        subst hR
        go_wp2
        go_quiet (first | (go_at_call 29; with_reducible exact Calls.quiet_of_same (HK.out.o1 _)) | (go_at_call 29; with_reducible exact Calls.quiet_of_same (HK.out.o2 _)))
        go_wp2
        go_ret
        exact ⟨rfl, below_drewN HB2.out _⟩
      | false =>
        rw [Bool.false_or, Bool.false_or] at hR
        have HR : Hid (R = decide (n2 < n1)) := hR
        clear hR
        go_wp2
        go_quiet (first | (go_at_call 29; with_reducible exact Calls.quiet_of_same (HK.out.o1 _)) | (go_at_call 29; with_reducible exact Calls.quiet_of_same (HK.out.o2 _)))
        go_wp2
        go_ret
        refine ⟨?_, below_drewN HB2.out _⟩
        rw [HR.out]
        simp
end
end Go.Proofs.YtadgjinlblloiaaDoor
