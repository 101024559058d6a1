/- What slices.Clone of names, may and asked answer of a tree's own node. -/
import Derived.Test.YtpidafpaffpnaaaGreatDoorWMake11
import Derived.Lib.SliceRun
namespace Go.Proofs.YtpidafpaffpnaaaGreatDoor.Tq
open Kq
def mayN (n : Kn) (o : O) : Int := if (o.kind = 2 ∨ o.kind = 3 ∨ o.kind = 4) ∧ o.ver ≠ -1 ∧ o.ver ≠ n.ver then 6 else if o.kind = 2 ∧ n.names ≠ [] then 7 else 0
def askT (o : O) (z : Int) (n : Kn) : X :=
  if mayN n o ≠ 0 then fail (mayN n o)
  else if o.kind = 2 then gone o.path
  else if o.kind = 3 then told o.path ⟨#[]⟩ [] (write n z o.data)
  else if o.kind = 4 then gone o.path
  else if o.kind = 5 then told o.path n.data [] n
  else if o.kind = 6 then told o.path ⟨#[]⟩ [] n
  else told o.path ⟨#[]⟩ n.names n
theorem atNode_ask (t : Tr) (o : O) (z : Int) (n : Kn) : (atNode t o z n).1 = askT o z n := by
  unfold atNode askT mayN
  repeat' split
  all_goals first
    | rfl
    | simp_all
end Go.Proofs.YtpidafpaffpnaaaGreatDoor.Tq
namespace Go.Proofs.YtpidafpaffpnaaaGreatDoor
open Go.RowKit

set_option maxRecDepth 20000 in
set_option maxHeartbeats 1000000 in
/-- slices.Clone, of texts. -/
theorem clone_any11 (v : Value) (l : List ByteArray) (w : World) (h : Nm w v l) (hl : l.length ≤ 3000) :
    Calls Tryz.prog 119 #[v] w fun e w' => ∃ a c, e = .returned (.slice a l.length c) ∧ w'.ownsRow w.heap.size 9 1 (.slice a l.length c) l.length (sc l) ∧ Below w.heap.size w w' := by
  rcases h with ⟨rfl, rfl⟩ | ⟨g, o, c, rfl, hc, hcell⟩
  · have hq : ∀ W : World, (binOp .eql 36 (.slice none 0 0) (.slice none 0 0)).run Tryz.prog W = .ok (.bool true) W := fun W => Lib.run_eql_slice_nil W _ _ none 0 0 0 0 Tryz.underlying36
    go_enter Tryz.func119, Tryz.ntmps119
    go_wp2
    go_ret
    exact ⟨none, 0, rfl, World.ownsRow_nil _ _ _ _, Below.refl _ _⟩
  · have HC : Hid (Src w (.slice (some ⟨g, o, none⟩) l.length c) l) := Or.inr ⟨g, o, c, rfl, hcell⟩
    obtain ⟨N, hN⟩ : ∃ N, N = l.length := ⟨_, rfl⟩
    rw [← hN] at HC hc hl
    rw [← hN]
    have HN : Hid (N = l.length ∧ N ≤ 3000) := ⟨hN, hl⟩
    clear hcell hN hl
    have hq : ∀ W : World, (binOp .eql 36 (.slice (some ⟨g, o, none⟩) N c) (.slice none 0 0)).run Tryz.prog W = .ok (.bool false) W := fun W => Lib.run_eql_slice_nil W _ _ (some ⟨g, o, none⟩) N c 0 0 Tryz.underlying36
    go_enter Tryz.func119, Tryz.ntmps119
    go_wp2_with (at_builtin; refine append_strs rfl _ _ rfl w.heap.size (.slice (some ⟨w.heap.size, 0, none⟩) 0 0) (.slice (some ⟨g, o, none⟩) N c) [] l (w.alloc (.cells #[] 9)) rfl rfl (World.ownsRow_made w #[] 0 (Nat.le_refl _) (by decide) rfl) (by simp) (HC.out.below ((Below.refl _ w).alloc (Nat.le_refl _) _)) (by have := HN.out; simp; omega) ?_)
    intro v' w' h1 h2
    have HX : Hid (w'.ownsRow w.heap.size 9 1 v' l.length (sc l) ∧ Below w.heap.size w w') := ⟨by simpa using h1, ((Below.refl _ w).alloc (Nat.le_refl _) _).trans h2⟩
    obtain ⟨a1, c1, e1, _⟩ := row_form HX.out.1
    subst e1
    clear h1 h2 hq
    rw [← HN.out.1]
    rw [← HN.out.1] at HX
    go_wp2
    go_ret
    exact ⟨_, _, rfl, HX.out⟩

section
variable {w : World}

set_option maxRecDepth 20000 in
set_option maxHeartbeats 4000000 in
theorem may_any11 (p : Nat) (n : Kq.Kn) (a : Option Addr) (N c : Nat) (o : O) (h : Cb w p (k10 n (.slice a N c)) 121) (hN : N = n.names.length) (hm : n.names.length ≤ 3000) (hk : 2 ≤ o.kind ∧ o.kind ≤ 7) :
    Calls Tryz.prog 118 #[dptr p, ov o] w fun e w' => e = .returned (.int .i64 (Tq.mayN n o)) ∧ Below w.heap.size w w' := by
  have HBX : Hid (Box5 (w.alloc (.cells #[.int .i64 o.kind, .string o.path, .string o.data, .int .i64 o.ver, .int .i64 o.flags] 33)) w.heap.size o) := Box5.made w o _
  have HB0 : Hid (Below w.heap.size w (w.alloc (.cells #[.int .i64 o.kind, .string o.path, .string o.data, .int .i64 o.ver, .int .i64 o.flags] 33))) := (Below.refl _ w).alloc (Nat.le_refl _) _
  have HD : Hid (Cb (w.alloc (.cells #[.int .i64 o.kind, .string o.path, .string o.data, .int .i64 o.ver, .int .i64 o.flags] 33)) p (k10 n (.slice a N c)) 121) := h.below HB0.out
  obtain ⟨b, hbw⟩ : ∃ b, b = w.heap.size := ⟨_, rfl⟩
  rw [← hbw] at HBX
  obtain ⟨R, hR⟩ : ∃ R, R = Tq.mayN n o := ⟨_, rfl⟩
  have HR : Hid (R = Tq.mayN n o) := hR
  rw [← hR]
  have HN : Hid (N = n.names.length) := hN
  have hN3 : N ≤ 3000 := by omega
  clear hR h hN hm
  unfold ov
  go_enter Tryz.func118, Tryz.ntmps118
  go_upto_region 1 with fail
  rw [← hbw]
  clear hbw
  generalize (w.alloc (.cells #[.int .i64 o.kind, .string o.path, .string o.data, .int .i64 o.ver, .int .i64 o.flags] 33)) = w0 at *
  obtain ⟨c0, c1, c2, c3, c4⟩ := HBX.out.all
  have n2 : w0.cell? ⟨p, 2, none⟩ = some (.int .i64 n.ver) := HD.out.cell 2
  have n9 : w0.cell? ⟨p, 9, none⟩ = some (.slice a N c) := HD.out.cell 9
  clear c1 c2 c4
  have hkc : o.kind = 2 ∨ o.kind = 3 ∨ o.kind = 4 ∨ (o.kind = 5 ∨ o.kind = 6 ∨ o.kind = 7) := by omega
  rcases hkc with hk2 | hk2 | hk2 | hk2
  · by_cases hvv : o.ver ≠ -1 ∧ o.ver ≠ n.ver
    · have HE : Hid (R = 6) := by
        have e : R = 6 := by rw [HR.out]; unfold Tq.mayN; rw [if_pos ⟨by omega, hvv⟩]
        exact e
      obtain ⟨hv1, hv2⟩ := hvv
      have hb1 : (o.ver != -1) = true := by simp [hv1]
      have hb2 : (o.ver != n.ver) = true := by simp [hv2]
      go_wp2
      go_quiet (fail)
      go_wp2
      go_ret
      rw [HE.out]
      exact ⟨rfl, below_drewN HB0.out _⟩
    have HV : Hid (¬ ((o.kind = 2 ∨ o.kind = 3 ∨ o.kind = 4) ∧ o.ver ≠ -1 ∧ o.ver ≠ n.ver)) := by
      have e : ¬ ((o.kind = 2 ∨ o.kind = 3 ∨ o.kind = 4) ∧ o.ver ≠ -1 ∧ o.ver ≠ n.ver) := fun h => hvv h.2
      exact e
    have hv : (o.ver != -1) = false ∨ ((o.ver != -1) = true ∧ (o.ver != n.ver) = false) := by
      by_cases h1 : o.ver = -1
      · exact Or.inl (by simp [h1])
      · have h2 : o.ver = n.ver := by omega
        exact Or.inr ⟨by simp [h1], by simp [h2]⟩
    clear hvv
    by_cases h0 : N = 0
    · have HE : Hid (R = 0) := by
        have e : R = 0 := by rw [HR.out]; unfold Tq.mayN; rw [if_neg HV.out, if_neg (fun h => h.2 (List.length_eq_zero_iff.1 (by have := HN.out; omega)))]
        exact e
      have h0' : ¬ (0 : Int) < (N : Int) := by omega
      rcases hv with hv | ⟨hv, hv2⟩
      · go_wp2
        go_quiet (fail)
        go_wp2
        try (go_quiet (fail); go_wp2)
        go_ret
        rw [HE.out]
        first
          | exact ⟨rfl, below_drewN HB0.out _⟩
          | exact ⟨rfl, below_drewN (below_drewN HB0.out _) _⟩
      · go_wp2
        go_quiet (fail)
        go_wp2
        try (go_quiet (fail); go_wp2)
        go_ret
        rw [HE.out]
        first
          | exact ⟨rfl, below_drewN HB0.out _⟩
          | exact ⟨rfl, below_drewN (below_drewN HB0.out _) _⟩
    · have HE : Hid (R = 7) := by
        have e : R = 7 := by rw [HR.out]; unfold Tq.mayN; rw [if_neg HV.out, if_pos ⟨hk2, fun h => by rw [h] at HN; have := HN.out; simp at this; omega⟩]
        exact e
      have h0' : (0 : Int) < (N : Int) := by omega
      rcases hv with hv | ⟨hv, hv2⟩
      · go_wp2
        go_quiet (fail)
        go_wp2
        try (go_quiet (fail); go_wp2)
        go_ret
        rw [HE.out]
        first
          | exact ⟨rfl, below_drewN HB0.out _⟩
          | exact ⟨rfl, below_drewN (below_drewN HB0.out _) _⟩
      · go_wp2
        go_quiet (fail)
        go_wp2
        try (go_quiet (fail); go_wp2)
        go_ret
        rw [HE.out]
        first
          | exact ⟨rfl, below_drewN HB0.out _⟩
          | exact ⟨rfl, below_drewN (below_drewN HB0.out _) _⟩
  · by_cases hvv : o.ver ≠ -1 ∧ o.ver ≠ n.ver
    · have HE : Hid (R = 6) := by
        have e : R = 6 := by rw [HR.out]; unfold Tq.mayN; rw [if_pos ⟨by omega, hvv⟩]
        exact e
      obtain ⟨hv1, hv2⟩ := hvv
      have hb1 : (o.ver != -1) = true := by simp [hv1]
      have hb2 : (o.ver != n.ver) = true := by simp [hv2]
      go_wp2
      go_quiet (fail)
      go_wp2
      go_ret
      rw [HE.out]
      exact ⟨rfl, below_drewN HB0.out _⟩
    have HV : Hid (¬ ((o.kind = 2 ∨ o.kind = 3 ∨ o.kind = 4) ∧ o.ver ≠ -1 ∧ o.ver ≠ n.ver)) := by
      have e : ¬ ((o.kind = 2 ∨ o.kind = 3 ∨ o.kind = 4) ∧ o.ver ≠ -1 ∧ o.ver ≠ n.ver) := fun h => hvv h.2
      exact e
    have hv : (o.ver != -1) = false ∨ ((o.ver != -1) = true ∧ (o.ver != n.ver) = false) := by
      by_cases h1 : o.ver = -1
      · exact Or.inl (by simp [h1])
      · have h2 : o.ver = n.ver := by omega
        exact Or.inr ⟨by simp [h1], by simp [h2]⟩
    clear hvv
    have HE : Hid (R = 0) := by
      have e : R = 0 := by rw [HR.out]; unfold Tq.mayN; rw [if_neg HV.out, if_neg (by omega)]
      exact e
    rcases hv with hv | ⟨hv, hv2⟩
    · go_wp2
      go_quiet (fail)
      go_wp2
      try (go_quiet (fail); go_wp2)
      go_ret
      rw [HE.out]
      first
        | exact ⟨rfl, below_drewN HB0.out _⟩
        | exact ⟨rfl, below_drewN (below_drewN HB0.out _) _⟩
    · go_wp2
      go_quiet (fail)
      go_wp2
      try (go_quiet (fail); go_wp2)
      go_ret
      rw [HE.out]
      first
        | exact ⟨rfl, below_drewN HB0.out _⟩
        | exact ⟨rfl, below_drewN (below_drewN HB0.out _) _⟩
  · by_cases hvv : o.ver ≠ -1 ∧ o.ver ≠ n.ver
    · have HE : Hid (R = 6) := by
        have e : R = 6 := by rw [HR.out]; unfold Tq.mayN; rw [if_pos ⟨by omega, hvv⟩]
        exact e
      obtain ⟨hv1, hv2⟩ := hvv
      have hb1 : (o.ver != -1) = true := by simp [hv1]
      have hb2 : (o.ver != n.ver) = true := by simp [hv2]
      go_wp2
      go_quiet (fail)
      go_wp2
      go_ret
      rw [HE.out]
      exact ⟨rfl, below_drewN HB0.out _⟩
    have HV : Hid (¬ ((o.kind = 2 ∨ o.kind = 3 ∨ o.kind = 4) ∧ o.ver ≠ -1 ∧ o.ver ≠ n.ver)) := by
      have e : ¬ ((o.kind = 2 ∨ o.kind = 3 ∨ o.kind = 4) ∧ o.ver ≠ -1 ∧ o.ver ≠ n.ver) := fun h => hvv h.2
      exact e
    have hv : (o.ver != -1) = false ∨ ((o.ver != -1) = true ∧ (o.ver != n.ver) = false) := by
      by_cases h1 : o.ver = -1
      · exact Or.inl (by simp [h1])
      · have h2 : o.ver = n.ver := by omega
        exact Or.inr ⟨by simp [h1], by simp [h2]⟩
    clear hvv
    have HE : Hid (R = 0) := by
      have e : R = 0 := by rw [HR.out]; unfold Tq.mayN; rw [if_neg HV.out, if_neg (by omega)]
      exact e
    rcases hv with hv | ⟨hv, hv2⟩
    · go_wp2
      go_quiet (fail)
      go_wp2
      try (go_quiet (fail); go_wp2)
      go_ret
      rw [HE.out]
      first
        | exact ⟨rfl, below_drewN HB0.out _⟩
        | exact ⟨rfl, below_drewN (below_drewN HB0.out _) _⟩
    · go_wp2
      go_quiet (fail)
      go_wp2
      try (go_quiet (fail); go_wp2)
      go_ret
      rw [HE.out]
      first
        | exact ⟨rfl, below_drewN HB0.out _⟩
        | exact ⟨rfl, below_drewN (below_drewN HB0.out _) _⟩
  · have HE : Hid (R = 0) := by
      have e : R = 0 := by rw [HR.out]; unfold Tq.mayN; rw [if_neg (by omega), if_neg (by omega)]
      exact e
    rcases hk2 with hk2 | hk2 | hk2
    · go_wp2
      go_ret
      rw [HE.out]
      exact ⟨rfl, HB0.out⟩
    · go_wp2
      go_ret
      rw [HE.out]
      exact ⟨rfl, HB0.out⟩
    · go_wp2
      go_ret
      rw [HE.out]
      exact ⟨rfl, HB0.out⟩
end
end Go.Proofs.YtpidafpaffpnaaaGreatDoor
