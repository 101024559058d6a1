/- The walk of the statement PackOrder: it answers true. -/
import Derived.Test.YteloehalobampaaWBs
import Derived.Deep.RegionWith
namespace Go.Proofs.Yteloehalobampaa
open Go.RowKit

theorem below_drew {w w' : World} (h : Below w.drew.heap.size w.drew w') : Below w.heap.size w w' := ⟨h.os, h.tape, h.output, h.size, h.block⟩

set_option maxHeartbeats 1000000 in
theorem order_walk (a b : Int) (w : World) (f : Int → ByteArray) (hf : ∀ z, f z = ⟨(Pk.be8 z).toArray⟩) (r t : Bool) (h8 : ∀ z, (f z).size = 8) (hr : ((f a).toList == (f b).toList) = r) (hr2 : (a == b) = r)
    (hn : (a < 0 ∨ b < 0) ∨ (Op.bytesLess (f a).toList (f b).toList = t ∧ decide (a < b) = t)) :
    Calls Try.prog 7 #[.int .i64 a, .int .i64 b] w fun e w' => e = .returned (.bool true) ∧ Below w.heap.size w w' := by
  have HF : Hid (∀ z, f z = ⟨(Pk.be8 z).toArray⟩) := hf
  have HN : Hid ((a < 0 ∨ b < 0) ∨ (Op.bytesLess (f a).toList (f b).toList = t ∧ decide (a < b) = t)) := hn
  clear hf hn
  go_enter Try.func7, Try.ntmps7
  go_wp2_with fail
  refine (awake_any _).mono ?_
  rintro e w1 ⟨rfl, hb⟩
  have HB1 : Hid (Below w.heap.size w w1) := hb
  clear hb
  go_wp2
  go_region_with (first
    | (go_at_call 25; refine (i64_bs _ [] _ _ (Bs.nil _) (by decide)).mono ?_; rintro e w3 ⟨v3, rfl, hs3, hb3⟩; have hcv3 := hs3.conv; have hcv2' := (HS2.out.below hb3).conv; rw [List.nil_append, ← HF.out] at hcv3; rw [List.nil_append, ← HF.out] at hcv2'; have HB3 : Hid (Below w.heap.size w w3) := HB2.out.trans (hb3.mono HB2.out.size); clear hb3 hs3)
    | (go_at_call 25; refine (i64_bs _ [] _ _ (Bs.nil _) (by decide)).mono ?_; rintro e w2 ⟨v2, rfl, hs2, hb2⟩; have hcv2 := hs2.conv; rw [List.nil_append, ← HF.out] at hcv2; have HS2 : Hid (Bs w2 v2 _) := hs2; have HB2 : Hid (Below w.heap.size w w2) := HB1.out.trans ((below_drew hb2).mono HB1.out.size); clear hb2 hs2))
  all_goals
    clear hcv2 hcv2' hcv3
    by_cases ha : a < 0
    · go_wp2
      go_ret
      exact ⟨rfl, HB3.out⟩
    by_cases hbn : b < 0
    · go_wp2
      go_ret
      exact ⟨rfl, HB3.out⟩
    obtain ⟨h1, h2⟩ := HN.out.resolve_left (fun h => h.elim ha hbn)
    go_wp2
    go_ret
    exact ⟨rfl, HB3.out⟩

theorem order_any (a b : Int) (w : World) (ha1 : -9223372036854775808 ≤ a) (ha2 : a ≤ 9223372036854775807) (hb1 : -9223372036854775808 ≤ b) (hb2 : b ≤ 9223372036854775807) :
    Calls Try.prog 7 #[.int .i64 a, .int .i64 b] w fun e w' => e = .returned (.bool true) ∧ Below w.heap.size w w' := by
  have hl : ∀ z : Int, (⟨(Pk.be8 z).toArray⟩ : ByteArray).toList = Pk.be8 z := fun z => by rw [ByteArray.toList_eq]
  refine order_walk a b w (fun z => ⟨(Pk.be8 z).toArray⟩) (fun _ => rfl) (a == b) (decide (a < b)) (fun _ => rfl) ?_ rfl ?_
  · rw [hl, hl]
    by_cases h : a = b
    · subst h; simp
    · have h2 : Pk.be8 a ≠ Pk.be8 b := fun e => h (Pk.be8_inj ha1 ha2 hb1 hb2 e)
      rw [beq_eq_false_iff_ne.2 h2, beq_eq_false_iff_ne.2 h]
  · by_cases ha : a < 0
    · exact Or.inl (Or.inl ha)
    by_cases hb : b < 0
    · exact Or.inl (Or.inr hb)
    refine Or.inr ⟨?_, rfl⟩
    rw [hl, hl]
    exact Pk.be8_less (by omega) ha2 (by omega) hb2
end Go.Proofs.Yteloehalobampaa
