/- The landed lock's small calls: New, Len, Held, isAnothers, isNone; path's Parent in both cases. -/
import Derived.Test.YtadgjinlblloiaaDoorMk17
import Derived.BigQuiet
namespace Go.Proofs.YtadgjinlblloiaaDoor
open Go.RowKit

theorem zeroI17 (w : World) : (zeroValue 2).run Tryd.prog w = .ok (.int .i64 0) w := by kernel_rfl
theorem zeroN17 (w : World) : (zeroValue 3).run Tryd.prog w = .ok (.int .i64 0) w := by kernel_rfl
theorem zeroSs17 (w : World) : (zeroValue 37).run Tryd.prog w = .ok (.slice none 0 0) w := by kernel_rfl

theorem parent_any17 (p : ByteArray) (w : World) (hS : Pa.Std w) (hp : p.size ≤ maxLen) :
    Calls Tryd.prog 28 #[.string p] w fun e w' => e = .returned (.tuple #[.string (Lk.upN p), .bool (Lk.under p)]) ∧ Below w.heap.size w w' := by
  by_cases h2 : 2 ≤ (Pl.parts p.data.toList).length
  · have hg : Pl.goodB p.data.toList = true := by
      cases e : Pl.goodB p.data.toList with
      | true => rfl
      | false => rw [Pl.bad_parts e] at h2; simp at h2
    have hu : Lk.under p = true := by unfold Lk.under Lk.good; rw [hg]; simp [h2]
    refine (Pa.parent_yes p w hS hg h2).mono ?_
    rintro e w' ⟨x, rfl, hx, hb⟩
    have e1 : x = Lk.up p := ByteArray.ext (Array.toList_inj.1 hx)
    unfold Lk.upN
    rw [hu, if_pos rfl, e1]
    exact ⟨rfl, hb⟩
  · have hu : Lk.under p = false := by unfold Lk.under; simp [h2]
    refine (Pa.parent_no p w hS hp (by omega)).mono ?_
    rintro e w' ⟨rfl, hb⟩
    unfold Lk.upN
    rw [hu, if_neg (by simp)]
    exact ⟨rfl, hb⟩
theorem Lk.upN_size {p : ByteArray} (hp : p.size ≤ maxLen) : (Lk.upN p).size ≤ maxLen := by
  unfold Lk.upN
  cases h : Lk.under p with
  | false => exact Nat.zero_le _
  | true =>
    rw [if_pos rfl]
    unfold Lk.under at h
    rw [Bool.and_eq_true] at h
    have h1 := Pl.parent_len h.1
    rw [Pa.sz_list] at h1
    show (Pl.parent p.data.toList).toArray.size ≤ maxLen
    simp only [List.size_toArray]
    omega

set_option maxRecDepth 20000 in
set_option maxHeartbeats 1000000 in
theorem isNone_any17 (p : ByteArray) (w : World) (hS : Pa.Std w) (hp : p.size ≤ maxLen) :
    Calls Tryd.prog 24 #[.string p] w fun e w' => e = .returned (.bool (!Lk.good p)) ∧ Below w.heap.size w w' := by
  have HS : Hid (Pa.Std w ∧ p.size ≤ maxLen) := ⟨hS, hp⟩
  clear hS hp
  go_enter Tryd.func24, Tryd.ntmps24
  go_wp2_with fail
  refine (Pa.good_any p _ HS.out.1 HS.out.2).mono ?_
  rintro e w1 ⟨rfl, hb⟩
  have HB : Hid (Below w.heap.size w w1) := hb
  clear hb
  go_wp2
  go_ret
  exact ⟨rfl, HB.out⟩

section
variable {w : World} {q a b c d : Nat} {sh so : Lk.St} {F : Nat → Prop} {fh fo fu fs : Lit → Option Value} {V : Int → Value}
theorem LkU.c0 (h : LkU w q sh so F a b c d fh fo fu fs V) : w.cell? ⟨q, 0, none⟩ = some (.map (some a)) := h.blk.cell 0
theorem LkU.c1 (h : LkU w q sh so F a b c d fh fo fu fs V) : w.cell? ⟨q, 1, none⟩ = some (.map (some b)) := h.blk.cell 1
theorem LkU.c2 (h : LkU w q sh so F a b c d fh fo fu fs V) : w.cell? ⟨q, 2, none⟩ = some (.map (some c)) := h.blk.cell 2
theorem LkU.c3 (h : LkU w q sh so F a b c d fh fo fu fs V) : w.cell? ⟨q, 3, none⟩ = some (.map (some d)) := h.blk.cell 3
theorem Lk.held_get (o : Option Int) : (o.map (Value.int .i64)).getD (.int .i64 0) = .int .i64 (o.getD 0) ∧ (o.map (Value.int .i64)).isSome = o.isSome := by cases o <;> exact ⟨rfl, rfl⟩

set_option maxRecDepth 20000 in
set_option maxHeartbeats 1000000 in
theorem held_any17 (h : LkU w q sh so F a b c d fh fo fu fs V) (p : ByteArray) (hp : p.size ≤ maxLen) :
    Calls Tryd.prog 11 #[dptr q, .string p] w fun e w' => e = .returned (.tuple #[.int .i64 ((Lk.held sh p).getD 0), .bool (Lk.held sh p).isSome]) ∧ w' = w := by
  have HH : Hid (Mq w 9 a fh ∧ fh (pkey p) = (Lk.held sh p).map (Value.int .i64) ∧ keyOf Tryd.prog 9 (.string p) = some (pkey p)) := ⟨h.mh, h.ih.at_ p, key_p hp⟩
  have t0 := h.c0
  obtain ⟨o, ho⟩ : ∃ o, o = Lk.held sh p := ⟨_, rfl⟩
  rw [← ho] at HH ⊢
  clear h hp ho
  go_enter Tryd.func11, Tryd.ntmps11
  go_wp2_with (at_lookup; refine wpList_lookMok rfl _ _ 48 rfl 9 2 keyedP Tryd.underlying48 (.int .i64 0) (zeroI17 _) rfl HH.out.1 (.string p) (pkey p) rfl HH.out.2.2 (.int .i64 (o.getD 0)) o.isSome (by rw [HH.out.2.1]; exact (Lk.held_get o).1) (by rw [HH.out.2.1]; exact (Lk.held_get o).2) ?_)
  go_wp2
  go_ret2
  exact ⟨rfl, rfl⟩

set_option maxRecDepth 20000 in
set_option maxHeartbeats 1000000 in
theorem isAnothers_any17 (h : LkU w q sh so F a b c d fh fo fu fs V) (who : Int) (p : ByteArray) (hp : p.size ≤ maxLen) :
    Calls Tryd.prog 29 #[dptr q, .int .i64 who, .string p] w fun e w' => e = .returned (.bool (Lk.others sh who p)) ∧ w' = w := by
  have HH : Hid (Mq w 9 a fh ∧ fh (pkey p) = (Lk.held sh p).map (Value.int .i64) ∧ keyOf Tryd.prog 9 (.string p) = some (pkey p)) := ⟨h.mh, h.ih.at_ p, key_p hp⟩
  have t0 := h.c0
  unfold Lk.others
  obtain ⟨o, ho⟩ : ∃ o, o = Lk.held sh p := ⟨_, rfl⟩
  rw [← ho] at HH ⊢
  clear h hp ho
  cases o with
  | none =>
    go_enter Tryd.func29, Tryd.ntmps29
    go_wp2_with (at_lookup; refine wpList_lookMok rfl _ _ 48 rfl 9 2 keyedP Tryd.underlying48 (.int .i64 0) (zeroI17 _) rfl HH.out.1 (.string p) (pkey p) rfl HH.out.2.2 (.int .i64 0) false (by rw [HH.out.2.1]; rfl) (by rw [HH.out.2.1]; rfl) ?_)
    go_wp2
    go_ret
    exact ⟨rfl, rfl⟩
  | some x =>
    go_enter Tryd.func29, Tryd.ntmps29
    go_wp2_with (at_lookup; refine wpList_lookMok rfl _ _ 48 rfl 9 2 keyedP Tryd.underlying48 (.int .i64 0) (zeroI17 _) rfl HH.out.1 (.string p) (pkey p) rfl HH.out.2.2 (.int .i64 x) true (by rw [HH.out.2.1]; rfl) (by rw [HH.out.2.1]; rfl) ?_)
    go_wp2
    go_ret
    refine ⟨?_, rfl⟩
    congr 2
    by_cases e : x = who <;> simp [e]

set_option maxRecDepth 20000 in
set_option maxHeartbeats 1000000 in
theorem len_any17 {m : Nat} (h : LkU w q sh so F a b c d fh fo fu fs V) (hf : Lk.Fine m sh) :
    Calls Tryd.prog 13 #[dptr q] w fun e w' => e = .returned (.int .i64 (sh.length : Int)) ∧ w' = w := by
  have HH : Hid (Mq w 9 a fh ∧ (sh.map fun x => pkey x.path).Nodup ∧ ∀ kl, (fh kl).isSome = true ↔ kl ∈ sh.map fun x => pkey x.path) := by
    refine ⟨h.mh, ?_, fun kl => ⟨fun hk => ?_, fun hk => ?_⟩⟩
    · unfold List.Nodup
      rw [List.pairwise_map]
      exact hf.uniq.imp fun hne e => hne (pkey_inj e)
    · obtain ⟨p, rfl⟩ := h.ih.key kl hk
      rw [h.ih.at_] at hk
      cases e : Lk.held sh p with
      | none => rw [e] at hk; cases hk
      | some x =>
        obtain ⟨y, hy, hp, _⟩ := Lk.held_some e
        exact List.mem_map.2 ⟨y, hy, by rw [hp]⟩
    · obtain ⟨x, hx, rfl⟩ := List.mem_map.1 hk
      rw [h.ih.at_, Lk.held_mem hf hx]
      rfl
  have t0 := h.c0
  clear h hf
  go_enter Tryd.func13, Tryd.ntmps13
  go_wp2_with (at_len; refine wpList_lenM rfl _ 48 rfl 9 2 keyedP Tryd.underlying48 rfl HH.out.1 (sh.map fun x => pkey x.path) HH.out.2.1 HH.out.2.2 ?_)
  go_ret
  exact ⟨rfl, rfl⟩
end

set_option maxRecDepth 20000 in
set_option maxHeartbeats 1000000 in
theorem new_is17 (w : World) : Calls Tryd.prog 9 #[] w fun e w' => e = .returned (dptr (w.heap.size + 4)) ∧ w' = ((((w.alloc (.map #[] 0)).alloc (.map #[] 0)).alloc (.map #[] 0)).alloc (.map #[] 0)).alloc (.cells #[.map (some w.heap.size), .map (some (w.heap.size + 1)), .map (some (w.heap.size + 2)), .map (some (w.heap.size + 3))] 53) := by
  have hmm := @run_makeMap Tryd.prog
  go_enter Tryd.func9, Tryd.ntmps9
  go_wp2
  go_ret
  exact ⟨by simp, by simp⟩
theorem new_any17 (w : World) : Calls Tryd.prog 9 #[] w fun e w' => ∃ q F, e = .returned (dptr q) ∧ LLk w' q [] F ∧ (∀ k, F k → w.heap.size ≤ k) ∧ Below w.heap.size w w' := by
  refine (new_is17 w).mono ?_
  rintro e w' ⟨rfl, rfl⟩
  obtain ⟨g, hg⟩ : ∃ g, g = w.heap.size := ⟨_, rfl⟩
  rw [← hg]
  obtain ⟨w1, e1⟩ : ∃ w1, w1 = w.alloc (.map #[] 0) := ⟨_, rfl⟩
  have m1 : Mq w1 9 g (fun _ => none) := by rw [e1, hg]; exact Mq.made w _
  have s1 : w1.heap.size = g + 1 := by rw [e1, hg]; simp
  have b1 : Below g w w1 := by rw [e1, hg]; exact (Below.refl _ w).alloc (Nat.le_refl _) _
  rw [← e1]
  obtain ⟨w2, e2⟩ : ∃ w2, w2 = w1.alloc (.map #[] 0) := ⟨_, rfl⟩
  have m2 : Mq w2 2 (g + 1) (fun _ => none) := by rw [e2, ← s1]; exact Mq.made w1 _
  have s2 : w2.heap.size = g + 2 := by rw [e2]; simp [s1]
  have b2 : Below w1.heap.size w1 w2 := by rw [e2]; exact (Below.refl _ w1).alloc (Nat.le_refl _) _
  rw [← e2]
  obtain ⟨w3, e3⟩ : ∃ w3, w3 = w2.alloc (.map #[] 0) := ⟨_, rfl⟩
  have m3 : Mq w3 9 (g + 2) (fun _ => none) := by rw [e3, ← s2]; exact Mq.made w2 _
  have s3 : w3.heap.size = g + 3 := by rw [e3]; simp [s2]
  have b3 : Below w2.heap.size w2 w3 := by rw [e3]; exact (Below.refl _ w2).alloc (Nat.le_refl _) _
  rw [← e3]
  obtain ⟨w4, e4⟩ : ∃ w4, w4 = w3.alloc (.map #[] 0) := ⟨_, rfl⟩
  have m4 : Mq w4 58 (g + 3) (fun _ => none) := by rw [e4, ← s3]; exact Mq.made w3 _
  have s4 : w4.heap.size = g + 4 := by rw [e4]; simp [s3]
  have b4 : Below w3.heap.size w3 w4 := by rw [e4]; exact (Below.refl _ w3).alloc (Nat.le_refl _) _
  rw [← e4]
  obtain ⟨w5, e5⟩ : ∃ w5, w5 = w4.alloc (.cells #[.map (some g), .map (some (g + 1)), .map (some (g + 2)), .map (some (g + 3))] 53) := ⟨_, rfl⟩
  have m5 : Cb w5 (g + 4) [.map (some g), .map (some (g + 1)), .map (some (g + 2)), .map (some (g + 3))] 53 := by rw [e5, ← s4]; exact Cb.made w4 _ _
  have s5 : w5.heap.size = g + 5 := by rw [e5]; simp [s4]
  have b5 : Below w4.heap.size w4 w5 := by rw [e5]; exact (Below.refl _ w4).alloc (Nat.le_refl _) _
  rw [← e5]
  have k1 : w5.heap[g]? = w1.heap[g]? := by rw [b5.block g (by omega), b4.block g (by omega), b3.block g (by omega), b2.block g (by omega)]
  have k2 : w5.heap[g + 1]? = w2.heap[g + 1]? := by rw [b5.block _ (by omega), b4.block _ (by omega), b3.block _ (by omega)]
  have k3 : w5.heap[g + 2]? = w3.heap[g + 2]? := by rw [b5.block _ (by omega), b4.block _ (by omega)]
  have k4 : w5.heap[g + 3]? = w4.heap[g + 3]? := by rw [b5.block _ (by omega)]
  refine ⟨g + 4, fun k => g ≤ k ∧ k < g + 5, rfl, ⟨g, g + 1, g + 2, g + 3, fun _ => none, fun _ => none, fun _ => none, fun _ => none, fun _ => .slice none 0 0, ⟨m5, m1.keep k1, m2.keep k2, m3.keep k3, m4.keep k4, IsH.nil, IsO.nil _, fun z hz => absurd rfl hz, fun z y hz => absurd rfl hz, by omega, by omega, by omega, fun z hz => absurd rfl hz, fun k hk => by omega⟩, IsU.nil, IsS.nil⟩, fun k hk => hk.1, ?_⟩
  have hb2 : Below g w w2 := b1.trans (b2.mono (by omega))
  have hb3 : Below g w w3 := hb2.trans (b3.mono (by omega))
  have hb4 : Below g w w4 := hb3.trans (b4.mono (by omega))
  exact hb4.trans (b5.mono (by omega))
end Go.Proofs.YtadgjinlblloiaaDoor
