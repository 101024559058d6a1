/- What op.Put answers, of every request. -/
import Derived.Test.YtcpajjjkhikipaaGreatDoorWMay
import Derived.Test.YtcpajjjkhikipaaGreatDoorLibW
namespace Go.Proofs.YtcpajjjkhikipaaGreatDoor
open Go.RowKit
theorem Bi.two (w : World) (a b : Int) (t : TypeId) : Bi (w.alloc (.cells #[.int .i64 a, .int .i64 b] t)) (.slice (some ⟨w.heap.size, 0, none⟩) 2 2) [a, b] := by
  refine ⟨_, 2, 2, rfl, rfl, fun j z hz => ⟨w.heap.size, 0, rfl, ?_⟩⟩
  rw [Nat.zero_add]
  match j, hz with
  | 0, hz => simp at hz; subst hz; exact cell?_alloc_at _ _ _ _ _ _ rfl
  | 1, hz => simp at hz; subst hz; exact cell?_alloc_at _ _ _ _ _ _ rfl
  | (j + 2), hz => simp at hz

set_option maxRecDepth 20000 in
set_option maxHeartbeats 4000000 in
theorem packed_any (o : O) (w : World) (hp : o.path.size ≤ 200) (hd : o.data.size ≤ 1000) :
    Calls Tryz.prog 31 #[ov o] w fun e w' => ∃ v', e = .returned v' ∧ Bs w' v' (Oq.obytes o) ∧ Below w.heap.size w w' := by
  have HBX : Hid (Box5 (w.alloc (.cells #[.int .i64 o.kind, .string o.path, .string o.data, .int .i64 o.ver, .int .i64 o.flags] 24)) w.heap.size o) := Box5.made w o _
  have HB0 : Hid (Below w.heap.size w (w.alloc (.cells #[.int .i64 o.kind, .string o.path, .string o.data, .int .i64 o.ver, .int .i64 o.flags] 24))) := (Below.refl _ w).alloc (Nat.le_refl _) _
  have HK : Hid (o.path.size ≤ 200 ∧ o.data.size ≤ 1000) := ⟨hp, hd⟩
  clear hp hd
  unfold ov
  go_enter Tryz.func31, Tryz.ntmps31
  go_upto_region 1 with fail
  generalize w.alloc (.cells #[.int .i64 o.kind, .string o.path, .string o.data, .int .i64 o.ver, .int .i64 o.flags] 24) = w1 at *
  obtain ⟨c0, c1, c2, c3, c4⟩ := HBX.out
  go_wp2_with fail
  refine (Pw.i64_bs _ [] o.kind _ (Bs.nil _) (by simp)).mono ?_
  rintro e w3 ⟨v3, rfl, hbs3, hb3⟩
  rw [List.nil_append] at hbs3
  have HS3 : Hid (Bs w3 v3 (Pk.be8 o.kind)) := hbs3
  have HX3 : Hid (Box5 w3 w.heap.size o) := HBX.out.below hb3
  have HB3 : Hid (Below w.heap.size w w3) := HB0.out.trans (hb3.mono HB0.out.size)
  have kk3 := HX3.out.all
  clear hbs3 hb3 c0 c1 c2 c3 c4
  go_wp2
  go_region_held3 (fun w' => w'.cell? ⟨w.heap.size, 0, none⟩ = some (.int .i64 o.kind) ∧ w'.cell? ⟨w.heap.size, 1, none⟩ = some (.string o.path) ∧ w'.cell? ⟨w.heap.size, 2, none⟩ = some (.string o.data) ∧ w'.cell? ⟨w.heap.size, 3, none⟩ = some (.int .i64 o.ver) ∧ w'.cell? ⟨w.heap.size, 4, none⟩ = some (.int .i64 o.flags)) (first | exact kk3 | exact kk4 | exact kk5) (first
    | (go_at_call_of 59 v3; refine (Pw.text_bs v3 (Pk.be8 o.kind) o.path _ (HS3.out.below (Below.refl _ _).drew) (by rw [Pk.be8_len]; omega) (by have := HK.out; omega)).mono ?_; rintro e w4 ⟨v4, rfl, hbs4, hb0⟩; have hb4 := below_drew hb0; have HS4 : Hid (Bs w4 v4 (Pk.be8 o.kind ++ Pk.txt o.path.data.toList)) := hbs4; have HX4 : Hid (Box5 w4 w.heap.size o) := HX3.out.below hb4; have HB4 : Hid (Below w.heap.size w w4) := HB3.out.trans (hb4.mono HB3.out.size); have kk4 := HX4.out.all; clear hbs4 hb0 hb4)
    | (go_at_call_of 59 v4; refine (Pw.text_bs v4 (Pk.be8 o.kind ++ Pk.txt o.path.data.toList) o.data _ HS4.out (by simp only [List.length_append, Pk.be8_len, Pk.txt]; have := HK.out; have h1 : o.path.data.toList.length = o.path.size := rfl; omega) (by have := HK.out; omega)).mono ?_; rintro e w5 ⟨v5, rfl, hbs5, hb5⟩; have HS5 : Hid (Bs w5 v5 (Pk.be8 o.kind ++ Pk.txt o.path.data.toList ++ Pk.txt o.data.data.toList)) := hbs5; have HX5 : Hid (Box5 w5 w.heap.size o) := HX4.out.below hb5; have HB5 : Hid (Below w.heap.size w w5) := HB4.out.trans (hb5.mono HB4.out.size); have kk5 := HX5.out.all; clear hbs5 hb5))
  clear kk3 kk4 kk5
  obtain ⟨c0, c1, c2, c3, c4⟩ := HX5.out
  have HBI : Hid (Bi (w5.alloc (.cells #[.int .i64 o.ver, .int .i64 o.flags] 2)) (.slice (some ⟨w5.heap.size, 0, none⟩) 2 2) [o.ver, o.flags]) := Bi.two w5 o.ver o.flags _
  have HAL : Hid (Below w5.heap.size w5 (w5.alloc (.cells #[.int .i64 o.ver, .int .i64 o.flags] 2))) := (Below.refl _ w5).alloc (Nat.le_refl _) _
  go_wp2_with fail
  refine (Pw.all_bs v5 _ (Pk.be8 o.kind ++ Pk.txt o.path.data.toList ++ Pk.txt o.data.data.toList) [o.ver, o.flags] _ (HS5.out.below HAL.out) HBI.out (by simp only [List.length_append, Pk.be8_len, Pk.txt]; have := HK.out; have h1 : o.path.data.toList.length = o.path.size := rfl; have h2 : o.data.data.toList.length = o.data.size := rfl; omega) (by simp)).mono ?_
  rintro e w6 ⟨v6, rfl, hbs6, hb6⟩
  have HE : Hid (Bs w6 v6 (Oq.obytes o) ∧ Below w.heap.size w w6) := by
    refine ⟨?_, (HB5.out.trans (HAL.out.mono HB5.out.size)).trans (hb6.mono (Nat.le_trans HB5.out.size HAL.out.size))⟩
    have e : Oq.obytes o = Pk.be8 o.kind ++ Pk.txt o.path.data.toList ++ Pk.txt o.data.data.toList ++ [o.ver, o.flags].flatMap Pk.be8 := by simp [Oq.obytes]
    rw [e]
    exact hbs6
  clear hbs6 hb6 c0 c1 c2 c3 c4
  go_wp2
  go_ret
  exact ⟨_, rfl, HE.out.1, HE.out.2⟩

theorem sl_none (w : World) : Sl w none 0 [] := ⟨Nat.le_refl _, fun _ => ⟨rfl, rfl⟩, fun _ h => by cases h⟩

theorem cells_three (w : World) (a b c : Int) (t : TypeId) : ∀ (j : Nat) z, [a, b, c][j]? = some z → (w.alloc (.cells #[.int .i64 a, .int .i64 b, .int .i64 c] t)).cell? ⟨w.heap.size, 0 + j, none⟩ = some (.int .i64 z) := fun j z hz => by
  rw [Nat.zero_add]
  match j, hz with
  | 0, hz => simp at hz; subst hz; exact cell?_alloc_at _ _ _ _ _ _ rfl
  | 1, hz => simp at hz; subst hz; exact cell?_alloc_at _ _ _ _ _ _ rfl
  | 2, hz => simp at hz; subst hz; exact cell?_alloc_at _ _ _ _ _ _ rfl
  | (j + 3), hz => simp at hz

set_option maxRecDepth 20000 in
set_option maxHeartbeats 4000000 in
theorem put_spec : PutSpec5 := by
  intro s n u os w hS hu hl hfit
  have HU : Hid (Ol w u os ∧ os.length ≤ maxLen ∧ ∀ o ∈ os, Fit o) := ⟨hu, hl, hfit⟩
  have HST : Hid (Pa.Std w) := hS
  have HBX : Hid (Box3 (w.alloc (.cells #[.int .i64 s, .int .i64 n, u] 31)) w.heap.size s n u) := Box3.made w s n u _
  have HB0 : Hid (Below w.heap.size w (w.alloc (.cells #[.int .i64 s, .int .i64 n, u] 31))) := (Below.refl _ w).alloc (Nat.le_refl _) _
  obtain ⟨R, hR⟩ : ∃ R : Int, R = Oq.may s n os := ⟨_, rfl⟩
  have HR : Hid (R = Oq.may s n os) := hR
  obtain ⟨au, m, cu, rfl, hm, hX⟩ := hu
  have HM : Hid (m = os.length) := hm
  clear hR hS hm hX hl hfit
  go_enter Tryz.func11, Tryz.ntmps11
  go_upto_region 1 with fail
  generalize w.alloc (.cells #[.int .i64 s, .int .i64 n, .slice au m cu] 31) = w1 at *
  obtain ⟨c0, c1, c2⟩ := HBX.out
  go_wp2_with fail
  refine (may_spec s n _ os _ (HST.out.below HB0.out) (HU.out.1.below HB0.out) HU.out.2.1 HU.out.2.2).mono ?_
  rintro e w2 ⟨rfl, hb⟩
  rw [← HR.out]
  have HB2 : Hid (Below w.heap.size w w2) := HB0.out.trans (hb.mono HB0.out.size)
  have HX2 : Hid (Box3 w2 w.heap.size s n (.slice au m cu)) := HBX.out.below hb
  clear hb c0 c1 c2
  by_cases hR0 : R = 0
  · have HP : Hid (Oq.put s n os = Oq.bytes s n os) := by
      have h : Oq.put s n os = Oq.bytes s n os := by unfold Oq.put; rw [← HR.out, if_pos hR0]
      exact h
    have HMS : Hid (1 ≤ s ∧ 1 ≤ n ∧ 1 ≤ os.length ∧ os.length ≤ 16 ∧ ∀ o ∈ os, o.path.size ≤ 200 ∧ o.data.size ≤ 1000) := may_sizes (HR.out.symm.trans hR0)
    have hm16 : m ≤ 16 := by rw [HM.out]; exact HMS.out.2.2.2.1
    subst hR0
    obtain ⟨c0, c1, c2⟩ := HX2.out
    have HC3 : Hid (∀ (j : Nat) z, [s, n, (m : Int)][j]? = some z → (w2.alloc (.cells #[.int .i64 s, .int .i64 n, .int .i64 (m : Int)] 2)).cell? ⟨w2.heap.size, 0 + j, none⟩ = some (.int .i64 z)) := cells_three w2 s n m _
    have HAL : Hid (Below w2.heap.size w2 (w2.alloc (.cells #[.int .i64 s, .int .i64 n, .int .i64 (m : Int)] 2))) := (Below.refl _ w2).alloc (Nat.le_refl _) _
    go_wp2_with fail
    generalize w2.alloc (.cells #[.int .i64 s, .int .i64 n, .int .i64 (m : Int)] 2) = w3 at *
    refine (Pw.all_some none 0 0 [] [s, n, (m : Int)] w2.heap.size 0 3 3 w3 rfl (sl_none w3) rfl HC3.out (by omega) (by omega)).mono ?_
    rintro e w5 ⟨v5, rfl, hown, hb5⟩
    obtain ⟨B, hB⟩ : ∃ B, B = w3.heap.size := ⟨_, rfl⟩
    rw [← hB] at hown hb5
    have HO5 : Hid (w5.ownsRow B 5 1 v5 24 (bc (Pk.be8 s ++ Pk.be8 n ++ Pk.be8 (m : Int)))) := by
      have h : w5.ownsRow B 5 1 v5 24 (bc (Pk.be8 s ++ Pk.be8 n ++ Pk.be8 (m : Int))) := by
        have e : Pk.be8 s ++ Pk.be8 n ++ Pk.be8 (m : Int) = [] ++ [s, n, (m : Int)].flatMap Pk.be8 := by simp
        rw [e]
        exact hown
      exact h
    have HB3 : Hid (Below w.heap.size w w3) := HB2.out.trans (HAL.out.mono HB2.out.size)
    have HB5 : Hid (Below w.heap.size w w5 ∧ w.heap.size ≤ B ∧ B ≤ w5.heap.size) := ⟨HB3.out.trans (hb5.mono (by rw [hB]; exact HB3.out.size)), by rw [hB]; exact HB3.out.size, by rw [hB]; exact hb5.size⟩
    have HX5 : Hid (Box3 w5 w.heap.size s n (.slice au m cu)) := (HX2.out.below HAL.out).below (by rw [← hB]; exact hb5)
    clear hown hb5 hB HC3 HAL c0 c1 c2
    obtain ⟨c0, c1, c2⟩ := HX5.out
    go_wp2
    go_loopw [3, 21] (fun f i wr => ∃ k : Nat, k ≤ m ∧ i = .int .i64 (k : Int) ∧ (∃ N, N ≤ 24 + 1300 * k ∧ wr.ownsRow B 5 1 f N (bc (Pk.be8 s ++ Pk.be8 n ++ Pk.be8 (m : Int) ++ (os.take k).flatMap Oq.obytes))) ∧ Below w.heap.size w wr ∧ B ≤ wr.heap.size) (fun _ i _ => ((m : Int) - intOf i).toNat)
    case atStart => exact ⟨0, Nat.zero_le _, rfl, ⟨24, by omega, by simpa using HO5.out⟩, HB5.out.1, HB5.out.2.2⟩
    case round =>
      obtain ⟨k, hk, rfl, ⟨N, hN, hf⟩, hb, hBw⟩ := hrel
      have HF : Hid (wr.ownsRow B 5 1 u3 N (bc (Pk.be8 s ++ Pk.be8 n ++ Pk.be8 (m : Int) ++ (os.take k).flatMap Oq.obytes))) := hf
      have HB : Hid (Below w.heap.size w wr ∧ B ≤ wr.heap.size) := ⟨hb, hBw⟩
      clear hf hb hBw
      by_cases hlt : k < m
      · have hlt' : (k : Int) < (m : Int) := by omega
        have hkl : k < os.length := by rw [← HM.out]; exact hlt
        obtain ⟨g, b, c', hv', hcs⟩ := (HU.out.1.below HB.out.1).at (by omega)
        simp only [Value.slice.injEq] at hv'
        obtain ⟨rfl, hq, rfl⟩ := hv'
        obtain ⟨e0, e1, e2, e3, e4⟩ := hcs k os[k] (List.getElem?_eq_getElem hkl)
        have HK : Hid (os[k]? = some os[k] ∧ os[k].path.size ≤ 200 ∧ os[k].data.size ≤ 1000) := ⟨List.getElem?_eq_getElem hkl, HMS.out.2.2.2.2 _ (List.getElem_mem hkl)⟩
        generalize os[k] = o at *
        clear hcs hq hkl
        have HAL : Hid (Below wr.heap.size wr (wr.alloc (.cells #[.int .i64 o.kind, .string o.path, .string o.data, .int .i64 o.ver, .int .i64 o.flags] 24))) := (Below.refl _ wr).alloc (Nat.le_refl _) _
        go_wp2_with fail
        refine (packed_any o _ HK.out.2.1 HK.out.2.2).mono ?_
        rintro e w6 ⟨v6, rfl, hbs6, hb6⟩
        have HB6 : Hid (Below wr.heap.size wr w6) := HAL.out.trans (hb6.mono HAL.out.size)
        have HS6 : Hid (Bs w6 v6 (Oq.obytes o)) := hbs6
        have HO6 : Hid (w6.ownsRow B 5 1 u3 N (bc (Pk.be8 s ++ Pk.be8 n ++ Pk.be8 (m : Int) ++ (os.take k).flatMap Oq.obytes))) := HF.out.kept (grownBy_below (row := none) HB6.out) (Classical.em _)
        have HL6 : Hid ((Oq.obytes o).length ≤ 1300) := obytes_len HK.out.2
        clear hbs6 hb6 e0 e1 e2 e3 e4 HAL
        go_wp2_with (at_builtin; refine append_bs rfl _ _ rfl B u3 v6 N (Pk.be8 s ++ Pk.be8 n ++ Pk.be8 (m : Int) ++ (os.take k).flatMap Oq.obytes) (Oq.obytes o) w6 rfl rfl HO6.out (Nat.le_trans HB.out.2 HB6.out.size) HS6.out (by have := HL6.out; omega) ?_)
        intro v7 w7 ho7 hb7
        have HE : Hid ((∃ N', N' ≤ 24 + 1300 * (k + 1) ∧ w7.ownsRow B 5 1 v7 N' (bc (Pk.be8 s ++ Pk.be8 n ++ Pk.be8 (m : Int) ++ (os.take (k + 1)).flatMap Oq.obytes))) ∧ Below w.heap.size w w7 ∧ B ≤ w7.heap.size) := by
          refine ⟨⟨N + (Oq.obytes o).length, by have := HL6.out; omega, ?_⟩, (HB.out.1.trans (HB6.out.mono HB.out.1.size)).trans (hb7.mono HB5.out.2.1), Nat.le_trans (Nat.le_trans HB.out.2 HB6.out.size) hb7.size⟩
          · have e : Pk.be8 s ++ Pk.be8 n ++ Pk.be8 (m : Int) ++ (os.take (k + 1)).flatMap Oq.obytes = Pk.be8 s ++ Pk.be8 n ++ Pk.be8 (m : Int) ++ (os.take k).flatMap Oq.obytes ++ Oq.obytes o := by
              rw [List.take_add_one, HK.out.1, List.flatMap_append]
              simp
            rw [e]
            exact ho7
        clear ho7 hb7
        go_wp2
        go_roundw
        case rel => exact ⟨k + 1, by omega, by go_num, HE.out⟩
        case measure => simp [intOf]; omega
      · have hlt' : ¬ (k : Int) < (m : Int) := by omega
        have HE : Hid (Bs wr u3 (Oq.put s n os)) := by
          have h := HF.out
          rw [List.take_of_length_le (by rw [← HM.out]; omega)] at h
          rw [HP.out]
          unfold Oq.bytes
          rw [← HM.out]
          exact Bs.own h
        go_wp2
        go_ret
        exact ⟨_, rfl, HE.out, HB.out.1⟩
  · have HP : Hid (Oq.put s n os = []) := by
      have h : Oq.put s n os = [] := by unfold Oq.put; rw [← HR.out, if_neg hR0]
      exact h
    obtain ⟨c0, c1, c2⟩ := HX2.out
    go_wp2
    go_ret
    refine ⟨_, rfl, ?_, HB2.out⟩
    rw [HP.out]
    exact Bs.nil _
end Go.Proofs.YtcpajjjkhikipaaGreatDoor
