/- What Of tells. -/
import Derived.Test.YtpjdjobdbandhaaDoorWMove16
namespace Go.Proofs.YtpjdjobdbandhaaDoor
open Go.RowKit

theorem Tb.topT_eq {p x : ByteArray} (h : x.data.toList = Pl.top p.data.toList) : x = Tb.topT p := by
  unfold Tb.topT
  rw [← h, Array.toArray_toList]
theorem Tb.topT_data (p : ByteArray) : (Tb.topT p).data.toList = Pl.top p.data.toList := rfl
theorem Tb.topT_name {p : ByteArray} (h : Pl.goodB p.data.toList = true) : Tb.isName (Tb.topT p) = true := (Tb.top_name h).1
theorem Tb.topT_size {p : ByteArray} (h : Pl.goodB p.data.toList = true) : 1 ≤ (Tb.topT p).size ∧ (Tb.topT p).size ≤ 40 := by
  have h1 := Tb.name_len (Tb.topT_name h)
  rw [← Pa.sz_list]
  exact h1
theorem Tb.wrap_small {z : Int} (h1 : 0 ≤ z) (h2 : z ≤ 1000000) : wrap64 z = z := by unfold wrap64; omega
set_option maxRecDepth 20000 in
set_option maxHeartbeats 4000000 in
theorem of_any16 (q : Nat) (s : Tb.St) (F : Nat → Prop) (m : Int) (p : ByteArray) (w : World) (hL : LTb w q s F) (hf : Tb.Fine m s) (hS : Pa.Std w) (hp : p.size ≤ maxLen) :
    Calls Tryd.prog 15 #[dptr q, .string p] w fun e w' => e = .returned (.int .i64 (Tb.of s p)) ∧ Below w.heap.size w w' := by
  obtain ⟨v, h, rfl⟩ := hL
  have H0 : Hid (Lt16 w q s v ∧ Tb.Fine m s) := ⟨h, hf⟩
  cases hg : Pl.goodB p.data.toList with
  | false =>
    have HT : Hid (Calls Tryd.prog 37 #[.string p] w fun e w' => e = .returned (.string ⟨#[]⟩) ∧ Below w.heap.size w w') := Pa.top_bad p w hS hp hg
    have HO : Hid (Tb.of s p = -1) := Tb.of_bad hg
    clear h hf hS hp hg
    unfold dptr
    go_enter Tryd.func15, Tryd.ntmps15
    go_wp2_with fail
    refine HT.out.mono ?_
    rintro e w1 ⟨rfl, hb⟩
    have HB : Hid (Below w.heap.size w w1) := hb
    clear hb HT
    go_wp2
    go_ret
    exact ⟨by rw [HO.out]; rfl, HB.out⟩
  | true =>
    obtain ⟨t, ht⟩ : ∃ t, t = Tb.topT p := ⟨_, rfl⟩
    have HT : Hid (Calls Tryd.prog 37 #[.string p] w fun e w' => e = .returned (.string t) ∧ Below w.heap.size w w') := by
      refine (Pa.top_any p w hS hg).mono ?_
      rintro e w' ⟨x, rfl, hx, hb⟩
      rw [ht, Tb.topT_eq hx]
      exact ⟨rfl, hb⟩
    have HO : Hid (Tb.of s p = Tb.whose s t ∧ t.size ≤ 1000) := ⟨by unfold Tb.of; rw [if_pos hg, ht], by rw [ht]; have := (Tb.topT_size hg).2; omega⟩
    have hne : t.toList.isEmpty = false := by
      cases e : t.toList.isEmpty with
      | false => rfl
      | true =>
        have h1 := (Tb.topT_size hg).1
        rw [← ht, ← Pa.sz_list, ← Lib.toList_data] at h1
        rw [List.isEmpty_iff.1 e] at h1
        simp at h1
    obtain ⟨k, hk⟩ : ∃ k, k = Tb.pos s.l t := ⟨_, rfl⟩
    obtain ⟨hs, hhs⟩ : ∃ z, z = Tb.has s.l t := ⟨_, rfl⟩
    have HF : Hid (∀ w', Below w.heap.size w w' → Calls Tryd.prog 29 #[.pointer (some ⟨q, 0, none⟩), .string t] w' fun e w'' => e = .returned (.tuple #[.int .i64 (k : Int), .bool hs]) ∧ Below w'.heap.size w' w'') := fun w' hb => by
      rw [hk, hhs]
      exact find_any16 q s v t w' (h.later hb) (by have := hf.len; omega) hf.rises
    have HP : Hid (k = Tb.pos s.l t ∧ hs = Tb.has s.l t) := ⟨hk, hhs⟩
    clear h hf hS hp hg ht hk hhs
    unfold dptr
    go_enter Tryd.func15, Tryd.ntmps15
    go_wp2_with fail
    refine HT.out.mono ?_
    rintro e w1 ⟨rfl, hb⟩
    have H1 : Hid (Below w.heap.size w w1) := hb
    clear hb HT
    go_wp2_with fail
    refine (HF.out w1 H1.out).mono ?_
    rintro e w2 ⟨rfl, hb⟩
    have H2 : Hid (Below w.heap.size w w2 ∧ Lt16 w2 q s v) := by
      have h := H1.out.trans (hb.mono H1.out.size)
      exact ⟨h, H0.out.1.later h⟩
    clear hb HF H1
    cases hs with
    | true =>
      obtain ⟨x, hx, hxt⟩ := (Tb.pos_has H0.out.2.rises).1 HP.out.2.symm
      have HX : Hid (Tb.of s p = x.shard) := (show Tb.of s p = x.shard by
        rw [HO.out.1]
        unfold Tb.whose
        rw [Tb.own_at H0.out.2.rises hx hxt]
        rfl)
      rw [← HP.out.1] at hx
      obtain ⟨N, hN⟩ : ∃ N, N = s.l.length := ⟨_, rfl⟩
      have hkN := (List.getElem?_eq_some_iff.1 hx).1
      rw [← hN] at hkN
      obtain ⟨a, c, hv, hNc, hj⟩ := row_form H2.out.2.row
      rw [← hN] at hv
      obtain ⟨g, rfl⟩ := hj (by omega)
      subst hv
      have hrw := H2.out.2.row
      rw [← hN] at hrw
      obtain ⟨r0, r1⟩ := row_at16 hrw hx
      have c2 : w2.cell? ⟨q, 2, none⟩ = some (.slice (some ⟨g, 0, none⟩) N c) := H2.out.2.blk.cell 2
      have k0 : (0 : Int) ≤ (k : Int) := by omega
      have kN : (k : Int) < (N : Int) := by omega
      clear hx hxt hN hNc hj hrw hkN
      go_wp2
      go_ret
      exact ⟨by rw [HX.out]; rfl, H2.out.1⟩
    | false =>
      obtain ⟨z, hz⟩ : ∃ z : Nat, z = Tb.sum t.data.toList := ⟨_, rfl⟩
      have HZ : Hid (z = Tb.sum t.data.toList ∧ Tb.of s p = (z : Int) % s.shards ∧ 1 ≤ s.shards ∧ s.shards ≤ 4 ∧ z ≤ 255000) := ⟨hz, by
        rw [HO.out.1]
        unfold Tb.whose
        rw [Tb.own_no HP.out.2.symm, hz]
        rfl, H0.out.2.sh1, H0.out.2.sh2, by
        have := Tb.sum_le t.data.toList
        have h2 := HO.out.2
        rw [Pa.sz_list] at this
        omega⟩
      have c0 : w2.cell? ⟨q, 0, none⟩ = some (.int .i64 s.shards) := H2.out.2.blk.cell 0
      obtain ⟨n, hn⟩ : ∃ n, n = s.shards := ⟨_, rfl⟩
      rw [← hn] at c0 HZ
      have hn0 : ¬ n = 0 := by have := HZ.out.2.2.1; omega
      have hn1 : (n == 0) = false := by simp [hn0]
      clear hz hn
      go_upto_region 7 with fail
      go_quiet (first
        | (go_at_call 38; refine Calls.quiet_of_same (v := .int .i64 (z : Int)) ?_; rw [HZ.out.1]; exact sum_any16 t _ HO.out.2))
      have H3 : Hid (Below w.heap.size w (w2.drewN nq)) := below_drewN H2.out.1 _
      clear c0 hn0 hn1
      go_wp2
      go_ret
      refine ⟨?_, H3.out⟩
      rw [HZ.out.2.1]
      rfl
end Go.Proofs.YtpjdjobdbandhaaDoor
