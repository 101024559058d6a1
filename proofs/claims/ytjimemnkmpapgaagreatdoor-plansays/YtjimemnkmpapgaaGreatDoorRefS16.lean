/- The reference's Split. -/
import Derived.Test.YtjimemnkmpapgaaGreatDoorRr16
import Derived.Test.YtjimemnkmpapgaaGreatDoorSp16
namespace Go.Proofs.YtjimemnkmpapgaaGreatDoor
open Go.RowKit

set_option maxRecDepth 20000 in
set_option maxHeartbeats 8000000 in
theorem refSplit_own16 (q : Nat) (s : Tb.St) (F : Nat → Prop) (m : Int) (v : Value) (os : List O) (w : World) (hL : LRb w q s F) (hf : Tb.Fine m s) (hv : Ol w v os) (hl : os.length ≤ 100) (hp : Paths16 os) :
    Calls Tryz.prog 42 #[dptr q, v] w fun e w' => ∃ S g us, e = .returned (.slice (some ⟨g, 0, none⟩) S S) ∧ S = s.shards.toNat ∧ Sp16 w.heap.size w' g us (Tb.split s (os.map O.path)) ∧ Below w.heap.size w w' := by
  have HL : Hid (LRb w q s F ∧ Tb.Fine m s ∧ Paths16 os ∧ Ol w v os ∧ (∀ w', Below w.heap.size w w' → LRb w' q s F)) := ⟨hL, hf, hp, hv, fun w' hb => LRb.keep hL fun k hk => hb.block k (LRb.lt hL hk)⟩
  obtain ⟨S, hSn⟩ : ∃ S : Nat, S = s.shards.toNat := ⟨_, rfl⟩
  have hS1 := hf.sh1
  have hS2 := hf.sh2
  have HSN : Hid (S = s.shards.toNat ∧ s.shards = (S : Int)) := ⟨hSn, by omega⟩
  have c0 : w.cell? ⟨q, 0, none⟩ = some (.int .i64 (S : Int)) := by
    obtain ⟨v0, h0, _⟩ := hL
    rw [← HSN.out.2]
    exact h0.blk.cell 0
  have hSle : S ≤ 4 := by omega
  obtain ⟨av, N, c, rfl, hn, _, _, _⟩ := hv
  have HN : Hid (N = os.length) := hn
  have hN1 : N ≤ 100 := by omega
  clear hL hf hl hp hn hSn hS1 hS2
  unfold dptr
  go_enter Tryz.func42, Tryz.ntmps42
  go_wp2_with (at_make; refine make_ints16 rfl _ _ rfl S w rfl rfl (by omega) ?_)
  obtain ⟨g, hg⟩ : ∃ g, g = w.heap.size := ⟨_, rfl⟩
  rw [← hg]
  intro w1 hcb hb1
  have H1 : Hid (Below w.heap.size w w1 ∧ Sp16 w.heap.size w1 g (List.replicate S (.slice none 0 0)) (Tb.split s [])) := ⟨by rw [hg] at hb1; exact hb1, by rw [Tb.split_nil, ← HSN.out.1]; exact Sp16.made hcb (by omega)⟩
  have HG : Hid (g = w.heap.size) := hg
  clear hcb hb1 hg c0
  go_wp2
  go_loopw [6] (fun i wx => ∃ (k : Nat) (us : List Value), k ≤ N ∧ i = .int .i64 (k : Int) ∧ Below w.heap.size w wx ∧ Sp16 w.heap.size wx g us (Tb.split s ((os.take k).map O.path))) (fun i _ => N - (intOf i).toNat)
  case atStart => exact ⟨0, _, Nat.zero_le _, rfl, H1.out.1, H1.out.2⟩
  case round =>
    obtain ⟨k, us, hk, rfl, hb, hsp⟩ := hrel
    have HW : Hid (Below w.heap.size w wr ∧ Sp16 w.heap.size wr g us (Tb.split s ((os.take k).map O.path))) := ⟨hb, hsp⟩
    clear hsp H1
    by_cases hlt : k < N
    · have hlt' : (k : Int) < (N : Int) := by omega
      have hk0 : (0 : Int) ≤ (k : Int) := by omega
      have hwk : IntKind.wrap .i64 ((k : Int) + 1) = (k : Int) + 1 := by rw [IntKind.wrap_i64]; omega
      have hkl : k < os.length := by rw [← HN.out]; exact hlt
      obtain ⟨gb, b, c', hv', hcs⟩ := (HL.out.2.2.2.1.below hb).at (by omega)
      simp only [Value.slice.injEq] at hv'
      obtain ⟨rfl, hq, rfl⟩ := hv'
      obtain ⟨h0, h1, h2, h3, h4⟩ := hcs k os[k] (List.getElem?_eq_getElem hkl)
      have HK : Hid (os[k]? = some os[k] ∧ os[k].path.size ≤ maxLen) := ⟨List.getElem?_eq_getElem hkl, HL.out.2.2.1 _ (List.getElem_mem hkl)⟩
      generalize os[k] = o at *
      clear hcs hq hb hkl
      have HSX : Hid ((os.take (k + 1)).map O.path = (os.take k).map O.path ++ [o.path] ∧ ((os.take k).map O.path).length = k) := ⟨by rw [List.take_add_one, HK.out.1]; simp, by rw [List.length_map, List.length_take]; have := HN.out; omega⟩
      clear h0 h2 h3 h4
      go_wp2_with fail
      refine (refOf_any16 q s F m o.path wr (HL.out.2.2.2.2 wr HW.out.1) HL.out.2.1 HK.out.2).mono ?_
      rintro e w3 ⟨rfl, hb3⟩
      have H3 : Hid (Below w.heap.size w w3 ∧ Sp16 w.heap.size w3 g us (Tb.split s ((os.take k).map O.path))) := ⟨HW.out.1.trans (hb3.mono HW.out.1.size), HW.out.2.below hb3⟩
      obtain ⟨z, hz⟩ : ∃ z, z = Tb.of s o.path := ⟨_, rfl⟩
      rw [← hz]
      have HZ : Hid (z = Tb.of s o.path ∧ -1 ≤ z ∧ z < (S : Int)) := ⟨hz, by rw [hz]; exact (Tb.of_ok HL.out.2.1 _).1, by rw [hz, ← HSN.out.2]; exact (Tb.of_ok HL.out.2.1 _).2⟩
      clear hb3 h1 hz HW
      by_cases hz1 : z = -1
      · have hzb : ¬ (0 : Int) ≤ z := by omega
        have HE : Hid (Tb.split s ((os.take (k + 1)).map O.path) = Tb.split s ((os.take k).map O.path)) := (show _ = _ by rw [HSX.out.1]; exact Tb.split_no _ (by rw [← HZ.out.1]; exact hz1))
        clear hz1
        go_wp2
        go_roundw
        case rel => exact ⟨k + 1, us, by omega, by go_num, H3.out.1, by rw [HE.out]; exact H3.out.2⟩
        case measure => simp [intOf]; omega
      · have hzb : (0 : Int) ≤ z := by have := HZ.out.2.1; omega
        obtain ⟨n, hn⟩ : ∃ n : Nat, z = (n : Int) := ⟨z.toNat, by have := HZ.out.2.1; omega⟩
        subst hn
        obtain ⟨L, hL⟩ : ∃ L, L = Tb.split s ((os.take k).map O.path) := ⟨_, rfl⟩
        obtain ⟨l, hl⟩ : ∃ l, l = Tb.places (Tb.of s) ((os.take k).map O.path) (n : Int) := ⟨_, rfl⟩
        have HLL : Hid (L = Tb.split s ((os.take k).map O.path) ∧ L[n]? = some l ∧ l.length ≤ 100 ∧ Tb.split s ((os.take (k + 1)).map O.path) = L.set n (l ++ [(k : Int)]) ∧ L.length = S) := by
          refine ⟨hL, ?_, ?_, ?_, by rw [hL, Tb.split_len, HSN.out.1]⟩
          · rw [hL, hl]
            exact Tb.split_get s _ (by rw [HSN.out.2]; exact HZ.out.2.2)
          · rw [hl]
            have := Tb.places_len (Tb.of s) ((os.take k).map O.path) (n : Int)
            rw [HSX.out.2] at this
            omega
          · rw [HSX.out.1, hL, hl, Tb.split_on _ HZ.out.1.symm, HSX.out.2]
        have H4 : Hid (Below w.heap.size w w3 ∧ Sp16 w.heap.size w3 g us L) := by rw [hL]; exact H3
        have hnS : n < S := by have := HZ.out.2.2; omega
        obtain ⟨u, hu⟩ : ∃ u, us[n]? = some u := ⟨us[n]'(by rw [H4.out.2.len, HLL.out.2.2.2.2]; exact hnS), List.getElem?_eq_getElem _⟩
        have HU : Hid (us[n]? = some u ∧ w3.ownsRow w.heap.size 3 1 u l.length (ic l)) := ⟨hu, H4.out.2.own n l u HLL.out.2.1 hu⟩
        have d3 : w3.cell? ⟨g, n, none⟩ = some u := by rw [H4.out.2.blk.cell n]; exact hu
        obtain ⟨ua, uc, hue, _, _⟩ := row_form HU.out.2
        obtain ⟨E, hE⟩ : ∃ E, E = l.length := ⟨_, rfl⟩
        rw [← hE] at hue
        subst hue
        have n0 : (0 : Int) ≤ (n : Int) := by omega
        have nS : (n : Int) < (S : Int) := by omega
        have hl100 : l.length ≤ 100 := HLL.out.2.2.1
        clear hz1 hL hl hu H3 hE
        obtain ⟨sb, hsb⟩ : ∃ z, z = w3.heap.size := ⟨_, rfl⟩
        have H5 : Hid (Below w.heap.size w (w3.alloc (.cells #[.int .i64 (k : Int)] 3)) ∧ Sp16 w.heap.size (w3.alloc (.cells #[.int .i64 (k : Int)] 3)) g us L ∧ Cb (w3.alloc (.cells #[.int .i64 (k : Int)] 3)) sb (ic [(k : Int)]) 3 ∧ (w3.alloc (.cells #[.int .i64 (k : Int)] 3)).ownsRow w.heap.size 3 1 (.slice ua E uc) l.length (ic l) ∧ (w3.alloc (.cells #[.int .i64 (k : Int)] 3)).heap.size = w3.heap.size + 1) := by
          have hb2 := (Below.refl _ w3).alloc (Nat.le_refl _) (.cells #[.int .i64 (k : Int)] 3)
          rw [hsb]
          exact ⟨H4.out.1.trans (hb2.mono H4.out.1.size), H4.out.2.below hb2, Cb.made w3 (ic [(k : Int)]) _, HU.out.2.alloc _, World.size_alloc _ _⟩
        go_wp2_with (at_builtin; rw [← hsb]; refine wpList_ic16 rfl _ _ rfl w.heap.size (.slice ua E uc) l [(k : Int)] sb 1 3 (w3.alloc (.cells #[.int .i64 (k : Int)] 3)) rfl rfl H5.out.2.2.2.1 H5.out.1.size H5.out.2.2.1 (by simp; omega) ?_)
        clear hsb d3
        generalize (w3.alloc (.cells #[.int .i64 (k : Int)] 3)) = w5 at *
        intro v6 w6 hr6 hb6 hg6 hv6
        rw [← H5.out.2.2.2.2] at hv6
        have hr6 : w6.ownsRow w.heap.size 3 1 v6 (l ++ [(k : Int)]).length (ic (l ++ [(k : Int)])) := by simpa using hr6
        have hgr := H5.out.2.1.grows HU.out.1 hr6 hg6 hv6
        have H6 : Hid (Below w.heap.size w w6 ∧ Sp16 w.heap.size (w6.setCell ⟨g, n, none⟩ v6) g (us.set n v6) (L.set n (l ++ [(k : Int)]))) := ⟨H5.out.1.trans (hb6.mono (Nat.le_refl _)), hgr.2⟩
        have d6 : w6.cell? ⟨g, n, none⟩ = some (.slice ua E uc) := by rw [hgr.1.cell n]; exact HU.out.1
        have f6 : w6.frozen? ⟨g, n, none⟩ = false := hgr.1.free n
        obtain ⟨a6, c6, e6, j1, j2⟩ := row_form hr6
        obtain ⟨E6, hE6⟩ : ∃ E, E = (l ++ [(k : Int)]).length := ⟨_, rfl⟩
        rw [← hE6] at e6
        subst e6
        have H7 : Hid (Below w.heap.size w (w6.setCell ⟨g, n, none⟩ (.slice a6 E6 c6))) := H6.out.1.grown (grownBy_setCell _ _ _) (Nat.le_trans (Nat.le_refl _) H6.out.1.size) (fun j hj => by simp at hj; have := HG.out; omega)
        clear hr6 hb6 hg6 hv6 hgr j1 j2 hE6
        go_wp2
        go_roundw
        case rel => exact ⟨k + 1, us.set n (.slice a6 E6 c6), by omega, by go_num, H7.out, by rw [HLL.out.2.2.2.1]; exact H6.out.2⟩
        case measure => simp [intOf]; omega
    · have hlt' : ¬ (k : Int) < (N : Int) := by omega
      have HE : Hid (Sp16 w.heap.size wr g us (Tb.split s (os.map O.path))) := by
        have h := HW.out.2
        rw [List.take_of_length_le (by rw [← HN.out]; omega)] at h
        exact h
      go_wp2
      go_ret
      exact ⟨S, g, rfl, HSN.out.1, ⟨us, HE.out⟩, HW.out.1⟩
theorem refSplit_any16 (q : Nat) (s : Tb.St) (F : Nat → Prop) (m : Int) (v : Value) (os : List O) (w : World) (hL : LRb w q s F) (hf : Tb.Fine m s) (hv : Ol w v os) (hl : os.length ≤ 100) (hp : Paths16 os) :
    Calls Tryz.prog 42 #[dptr q, v] w fun e w' => ∃ u, e = .returned u ∧ Bii w' u (Tb.split s (os.map O.path)) ∧ Below w.heap.size w w' := by
  refine (refSplit_own16 q s F m v os w hL hf hv hl hp).mono ?_
  rintro e w' ⟨S, g, us, rfl, hS2, hs, hb⟩
  exact ⟨_, rfl, hs.bii (by rw [Tb.split_len]; exact hS2), hb⟩
end Go.Proofs.YtjimemnkmpapgaaGreatDoor
