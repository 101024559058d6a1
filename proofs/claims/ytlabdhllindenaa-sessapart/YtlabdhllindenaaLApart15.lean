/- SessApart's walk. -/
import Derived.Test.YtlabdhllindenaaActs15
namespace Go.Proofs.Ytlabdhllindenaa.Sq
/-- The first session, that nobody touches. -/
structure Lone (span : Int) (s : St) : Prop where
  nx : 2 ≤ s.next
  till : ∀ x ∈ s.l, x.id = 1 → x.till = span
  has : has s.l 1 = true ↔ s.now < span
theorem Lone.first {span : Int} (h : 1 ≤ span) : Lone span ⟨10, 0, 2, [⟨1, span, span⟩]⟩ := by
  refine ⟨Int.le_refl 2, fun x hx _ => ?_, ?_⟩
  · simp at hx
    rw [hx]
  · simp [Sq.has]
    omega
theorem Lone.op {span : Int} {s : St} (h : Lone span s) (sp : Int) : Lone span (op s sp).2.2 := by
  unfold Sq.op
  split
  · exact h
  · split
    · exact h
    · have hn := h.nx
      refine ⟨by simp only []; omega, fun x hx e => ?_, ?_⟩
      · rcases List.mem_append.1 hx with hx | hx
        · exact h.till x hx e
        · simp at hx
          subst hx
          simp only [] at e
          omega
      · have e1 : Sq.has (s.l ++ [⟨s.next, sp, s.now + sp⟩]) 1 = Sq.has s.l 1 := by
          unfold Sq.has
          rw [List.any_append]
          simp
          omega
        simp only []
        rw [e1]
        exact h.has
theorem Lone.touch {span : Int} {s : St} (h : Lone span s) (id : Int) (hid : id ≠ 1) : Lone span (touch s id).2 := by
  unfold Sq.touch
  split
  · have key : ∀ x : One, (if x.id = id then renew s.now x else x).id = x.id := fun x => by split <;> rfl
    refine ⟨h.nx, fun x hx e => ?_, ?_⟩
    · obtain ⟨y, hy, rfl⟩ := List.mem_map.1 hx
      rw [key] at e
      rw [if_neg (by omega)]
      exact h.till y hy e
    · simp only []
      rw [← h.has, has_iff, has_iff]
      constructor
      · rintro ⟨x, hx, e⟩
        obtain ⟨y, hy, rfl⟩ := List.mem_map.1 hx
        rw [key] at e
        exact ⟨y, hy, e⟩
      · rintro ⟨y, hy, e⟩
        exact ⟨_, List.mem_map.2 ⟨y, hy, rfl⟩, by rw [key]; exact e⟩
  · exact h
theorem Lone.tick {span : Int} {s : St} (h : Lone span s) : Lone span (tick s) := by
  refine ⟨h.nx, fun x hx e => h.till x (List.mem_filter.1 hx).1 e, ?_⟩
  show Sq.has (s.l.filter fun x => !ends (s.now + 1) x) 1 = true ↔ s.now + 1 < span
  rw [has_iff]
  constructor
  · rintro ⟨x, hx, e⟩
    have hm := List.mem_filter.1 hx
    have ht := h.till x hm.1 e
    have h2 : ¬ x.till ≤ s.now + 1 := by simpa [ends] using hm.2
    omega
  · intro hlt
    obtain ⟨x, hx, e⟩ := has_iff.1 (h.has.2 (by omega))
    have ht := h.till x hx e
    exact ⟨x, List.mem_filter.2 ⟨hx, by simp [ends]; omega⟩, e⟩
end Go.Proofs.Ytlabdhllindenaa.Sq
namespace Go.Proofs.Ytlabdhllindenaa
open Go.RowKit

set_option maxRecDepth 20000 in
set_option maxHeartbeats 8000000 in
theorem apart_any15 {LS : Rep15} (S : Specs15 LS) (span : Int) (v : Value) (xs : List Sq.Ac) (W : World) (hv : Acl15 W v xs) (hl : xs.length ≤ maxLen) :
    Calls Try.prog 9 #[.int .i64 span, v] W fun e w' => e = .returned (.bool true) ∧ Below W.heap.size W w' := by
  have HS : Hid (Specs15 LS) := S
  obtain ⟨av, N, c, rfl, hN, hj⟩ := hv
  have HV : Hid (Acl15 W (.slice av N c) xs ∧ N = xs.length) := ⟨⟨av, N, c, rfl, hN, hj⟩, hN⟩
  have hN1 : N ≤ 9223372036854775807 := by unfold maxLen at hl; omega
  clear S hl hN hj
  go_enter Try.func9, Try.ntmps9
  go_wp2_with fail
  refine (awake_any15 HS.out W).mono ?_
  rintro e w0 ⟨rfl, hb0⟩
  have H0 : Hid (Below W.heap.size W w0) := hb0
  clear hb0
  by_cases h1 : span < 1
  · go_wp2
    go_ret
    exact ⟨rfl, H0.out⟩
  by_cases h2 : 30 < span
  · go_wp2
    go_ret
    exact ⟨rfl, H0.out⟩
  by_cases h80 : 80 < N
  · have h80' : (80 : Int) < (N : Int) := by omega
    go_wp2
    go_ret
    exact ⟨rfl, H0.out⟩
  have h80' : ¬ (80 : Int) < (N : Int) := by omega
  go_wp2_with fail
  refine (mine15_new HS.out H0.out 10 (by decide)).mono ?_
  rintro e w1 ⟨q, F1, rfl, hM⟩
  have M1 : Hid (Mine15 LS W w1 q 1 (Sq.new 10) F1) := hM
  clear hM H0
  go_wp2_with fail
  refine (M1.out.opn HS.out (by decide) span 1 0 ⟨10, 0, 2, [⟨1, span, span⟩]⟩ (by unfold Sq.op Sq.new; rw [if_neg (by omega), if_neg (by simp)]; simp)).mono ?_
  rintro e w2 ⟨F2, rfl, hM, hmv⟩
  have M2 : Hid (Mine15 LS W w2 q 2 ⟨10, 0, 2, [⟨1, span, span⟩]⟩ F2 ∧ Sq.Lone span ⟨10, 0, 2, [⟨1, span, span⟩]⟩) := ⟨hM, Sq.Lone.first (by omega)⟩
  clear hM hmv M1
  go_wp2
  go_loopw [9, 10] (fun n i wx => ∃ (k : Nat) (s : Sq.St) (F : Nat → Prop), k ≤ N ∧ i = .int .i64 (k : Int) ∧ n = .int .i64 s.now ∧ Mine15 LS W wx q ((k : Int) + 2) s F ∧ Sq.Lone span s) (fun _ i _ => N - (intOf i).toNat)
  case atStart => exact ⟨0, _, F2, Nat.zero_le _, rfl, rfl, M2.out.1, M2.out.2⟩
  case round =>
    obtain ⟨k, s, F, hk, rfl, rfl, hM, hLo⟩ := hrel
    have H3 : Hid (Mine15 LS W wr q ((k : Int) + 2) s F ∧ Sq.Lone span s) := ⟨hM, hLo⟩
    clear hM hLo M2
    by_cases hlt : k < N
    · have hlt' : (k : Int) < (N : Int) := by omega
      have hk0 : (0 : Int) ≤ (k : Int) := by omega
      have hwk : IntKind.wrap .i64 ((k : Int) + 1) = (k : Int) + 1 := by rw [IntKind.wrap_i64]; omega
      obtain ⟨x, hx⟩ : ∃ x, xs[k]? = some x := ⟨xs[k]'(by rw [← HV.out.2]; exact hlt), List.getElem?_eq_getElem _⟩
      have HX : Hid (xs[k]? = some x) := hx
      obtain ⟨g, o, rfl, c0, c1, c2⟩ := (HV.out.1.below H3.out.1.below).at hx
      clear hx
      have hkm : ((k : Int) + 2) ≤ 1000000 := by omega
      by_cases ho0 : x.op = 0
      · have hob : (x.op == 0) = true := by simp [ho0]
        clear ho0
        obtain ⟨za, zb, s6, hz⟩ : ∃ za zb s6, Sq.op s x.span = (za, zb, s6) := ⟨_, _, _, rfl⟩
        have HZ : Hid (Sq.op s x.span = (za, zb, s6) ∧ s6.now = s.now) := ⟨hz, by
          have e : s6 = (Sq.op s x.span).2.2 := by rw [hz]
          rw [e]
          unfold Sq.op
          split
          · rfl
          · split <;> rfl⟩
        clear hz
        go_wp2_with fail
        refine (H3.out.1.opn HS.out hkm x.span za zb s6 HZ.out.1).mono ?_
        rintro e w6 ⟨F6, rfl, hM6, hmv⟩
        have H6 : Hid (Mine15 LS W w6 q ((k : Int) + 1 + 2) s6 F6 ∧ Sq.Lone span s6) := ⟨by rw [show (k : Int) + 1 + 2 = (k : Int) + 2 + 1 by omega]; exact hM6, by have := H3.out.2.op x.span; rw [HZ.out.1] at this; exact this⟩
        clear hM6 hmv H3 c0 c1 c2
        rw [← HZ.out.2]
        obtain ⟨b, hb⟩ : ∃ b, b = Sq.has s6.l 1 := ⟨_, rfl⟩
        have HB : Hid (b = Sq.has s6.l 1 ∧ (b = true ↔ s6.now < span)) := ⟨hb, by rw [hb]; exact H6.out.2.has⟩
        clear hb
        go_wp2_with fail
        refine (H6.out.1.live HS.out 1 b HB.out.1.symm).mono ?_
        rintro e w7 ⟨rfl, hM7, hb7⟩
        have H7 : Hid (Mine15 LS W w7 q ((k : Int) + 1 + 2) s6 F6 ∧ Sq.Lone span s6) := ⟨hM7, H6.out.2⟩
        clear hM7 hb7 H6
        cases b with
        | true =>
          have hn : s6.now < span := HB.out.2.1 rfl
          go_wp2
          go_roundw
          case rel => exact ⟨k + 1, s6, F6, by omega, by go_num, rfl, by simpa using H7.out.1, H7.out.2⟩
          case measure => simp [intOf]; omega
        | false =>
          have hn : decide (s6.now < span) = false := decide_eq_false (fun e => by cases HB.out.2.2 e)
          go_wp2
          go_roundw
          case rel => exact ⟨k + 1, s6, F6, by omega, by go_num, rfl, by simpa using H7.out.1, H7.out.2⟩
          case measure => simp [intOf]; omega
      have hob : (x.op == 0) = false := by simp [ho0]
      by_cases ho3 : x.op = 3
      · have hob3 : (x.op == 3) = true := by simp [ho3]
        clear ho0 ho3
        obtain ⟨s6, hs6⟩ : ∃ s6, s6 = Sq.tick s := ⟨_, rfl⟩
        have HZ : Hid (s6 = Sq.tick s ∧ s6.now = s.now + 1) := ⟨hs6, by rw [hs6]; rfl⟩
        clear hs6
        have hwn : IntKind.wrap .i64 (s.now + 1) = s.now + 1 := by
          have e1 := H3.out.1.fine.now0
          have e2 := H3.out.1.fine.nowm
          rw [IntKind.wrap_i64]
          omega
        go_wp2_with fail
        refine (H3.out.1.tick HS.out hkm (Sq.over s) s6 rfl HZ.out.1.symm).mono ?_
        rintro e w6 ⟨F6, va, rfl, hia, hoa, hM6, hmv⟩
        have H6 : Hid (Mine15 LS W w6 q ((k : Int) + 1 + 2) s6 F6 ∧ Sq.Lone span s6) := ⟨by rw [show (k : Int) + 1 + 2 = (k : Int) + 2 + 1 by omega]; exact hM6, by rw [HZ.out.1]; exact H3.out.2.tick⟩
        obtain ⟨a3, n3, c3, rfl, hn3, hc3⟩ := hia
        clear hM6 hmv H3 c0 c1 c2 hoa hn3 hc3
        go_wp2_with fail
        rw [← HZ.out.2]
        obtain ⟨b, hb⟩ : ∃ b, b = Sq.has s6.l 1 := ⟨_, rfl⟩
        have HB : Hid (b = Sq.has s6.l 1 ∧ (b = true ↔ s6.now < span)) := ⟨hb, by rw [hb]; exact H6.out.2.has⟩
        clear hb
        refine (H6.out.1.live HS.out 1 b HB.out.1.symm).mono ?_
        rintro e w7 ⟨rfl, hM7, hb7⟩
        have H7 : Hid (Mine15 LS W w7 q ((k : Int) + 1 + 2) s6 F6 ∧ Sq.Lone span s6) := ⟨hM7, H6.out.2⟩
        clear hM7 hb7 H6
        cases b with
        | true =>
          have hn : s6.now < span := HB.out.2.1 rfl
          go_wp2
          go_roundw
          case rel => exact ⟨k + 1, s6, F6, by omega, by go_num, rfl, by simpa using H7.out.1, H7.out.2⟩
          case measure => simp [intOf]; omega
        | false =>
          have hn : decide (s6.now < span) = false := decide_eq_false (fun e => by cases HB.out.2.2 e)
          go_wp2
          go_roundw
          case rel => exact ⟨k + 1, s6, F6, by omega, by go_num, rfl, by simpa using H7.out.1, H7.out.2⟩
          case measure => simp [intOf]; omega
      have hob3 : (x.op == 3) = false := by simp [ho3]
      by_cases hid : x.id = 1
      · have hidb : (x.id != 1) = false := by simp [hid]
        have H6 : Hid (Mine15 LS W wr q ((k : Int) + 1 + 2) s F ∧ Sq.Lone span s) := ⟨H3.out.1.mono (by omega), H3.out.2⟩
        clear ho0 ho3 hid
        obtain ⟨s6, hs6⟩ : ∃ s6, s6 = s := ⟨_, rfl⟩
        obtain ⟨F6, hF6⟩ : ∃ F6, F6 = F := ⟨_, rfl⟩
        rw [← hs6, ← hF6] at H6
        rw [← hs6]
        clear hs6 hF6 H3
        obtain ⟨b, hb⟩ : ∃ b, b = Sq.has s6.l 1 := ⟨_, rfl⟩
        have HB : Hid (b = Sq.has s6.l 1 ∧ (b = true ↔ s6.now < span)) := ⟨hb, by rw [hb]; exact H6.out.2.has⟩
        clear hb
        go_wp2_with fail
        refine (H6.out.1.live HS.out 1 b HB.out.1.symm).mono ?_
        rintro e w7 ⟨rfl, hM7, hb7⟩
        have H7 : Hid (Mine15 LS W w7 q ((k : Int) + 1 + 2) s6 F6 ∧ Sq.Lone span s6) := ⟨hM7, H6.out.2⟩
        clear hM7 hb7 H6
        cases b with
        | true =>
          have hn : s6.now < span := HB.out.2.1 rfl
          go_wp2
          go_roundw
          case rel => exact ⟨k + 1, s6, F6, by omega, by go_num, rfl, by simpa using H7.out.1, H7.out.2⟩
          case measure => simp [intOf]; omega
        | false =>
          have hn : decide (s6.now < span) = false := decide_eq_false (fun e => by cases HB.out.2.2 e)
          go_wp2
          go_roundw
          case rel => exact ⟨k + 1, s6, F6, by omega, by go_num, rfl, by simpa using H7.out.1, H7.out.2⟩
          case measure => simp [intOf]; omega
      · have hidb : (x.id != 1) = true := by simp [hid]
        obtain ⟨za, s6, hz⟩ : ∃ za s6, Sq.touch s x.id = (za, s6) := ⟨_, _, rfl⟩
        have HZ : Hid (Sq.touch s x.id = (za, s6) ∧ s6.now = s.now ∧ x.id ≠ 1) := ⟨hz, by
          have e : s6 = (Sq.touch s x.id).2 := by rw [hz]
          rw [e]
          unfold Sq.touch
          split <;> rfl, hid⟩
        clear hz hid ho0 ho3
        go_wp2_with fail
        refine (H3.out.1.touch HS.out hkm x.id za s6 HZ.out.1).mono ?_
        rintro e w6 ⟨F6, rfl, hM6, hmv⟩
        have H6 : Hid (Mine15 LS W w6 q ((k : Int) + 1 + 2) s6 F6 ∧ Sq.Lone span s6) := ⟨hM6.mono (by omega), by have := H3.out.2.touch x.id HZ.out.2.2; rw [HZ.out.1] at this; exact this⟩
        clear hM6 hmv H3 c0 c1 c2
        rw [← HZ.out.2.1]
        obtain ⟨b, hb⟩ : ∃ b, b = Sq.has s6.l 1 := ⟨_, rfl⟩
        have HB : Hid (b = Sq.has s6.l 1 ∧ (b = true ↔ s6.now < span)) := ⟨hb, by rw [hb]; exact H6.out.2.has⟩
        clear hb
        go_wp2_with fail
        refine (H6.out.1.live HS.out 1 b HB.out.1.symm).mono ?_
        rintro e w7 ⟨rfl, hM7, hb7⟩
        have H7 : Hid (Mine15 LS W w7 q ((k : Int) + 1 + 2) s6 F6 ∧ Sq.Lone span s6) := ⟨hM7, H6.out.2⟩
        clear hM7 hb7 H6
        cases b with
        | true =>
          have hn : s6.now < span := HB.out.2.1 rfl
          go_wp2
          go_roundw
          case rel => exact ⟨k + 1, s6, F6, by omega, by go_num, rfl, by simpa using H7.out.1, H7.out.2⟩
          case measure => simp [intOf]; omega
        | false =>
          have hn : decide (s6.now < span) = false := decide_eq_false (fun e => by cases HB.out.2.2 e)
          go_wp2
          go_roundw
          case rel => exact ⟨k + 1, s6, F6, by omega, by go_num, rfl, by simpa using H7.out.1, H7.out.2⟩
          case measure => simp [intOf]; omega
    · have hlt' : ¬ (k : Int) < (N : Int) := by omega
      go_wp2
      go_ret
      exact ⟨rfl, H3.out.1.below⟩
end Go.Proofs.Ytlabdhllindenaa
