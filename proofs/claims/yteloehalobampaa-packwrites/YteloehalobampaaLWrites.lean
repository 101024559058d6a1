/- The walk of the statement PackWrites: it answers true. -/
import Derived.Test.YteloehalobampaaRWrite
import Derived.BigRegion
import Derived.Deep.QuietTactic
import Derived.BigQuiet
import Derived.Deep.RegionWith
namespace Go.Proofs.Yteloehalobampaa
open Go.RowKit

theorem below_drew {w w' : World} (h : Below w.drew.heap.size w.drew w') : Below w.heap.size w w' := ⟨h.os, h.tape, h.output, h.size, h.block⟩

theorem grownBy_drew (w : World) (row : Option Nat) : w.grownBy w.drew row := ⟨rfl, rfl, rfl, Nat.le_refl _, fun _ _ _ => rfl⟩

theorem below_drewN {B : Nat} {w wr : World} (h : Below B w wr) (q : Nat) : Below B w (wr.drewN q) := ⟨h.os, h.tape, h.output, h.size, h.block⟩

set_option maxHeartbeats 2000000 in
theorem writes_few (vb : Value) (bs : List UInt8) (s : ByteArray) (vz : Value) (zs : List Int) (w : World) (hb : Bs w vb bs) (hz : Bi w vz zs) (hbl : bs.length ≤ 100) (hs : s.size ≤ 300) (hzl : zs.length ≤ 30) (hzr : ∀ z ∈ zs, -9223372036854775808 ≤ z ∧ z ≤ 9223372036854775807) :
    Calls Try.prog 5 #[vb, .string s, vz] w fun e w' => e = .returned (.bool true) ∧ Below w.heap.size w w' := by
  have HVB : Hid (Bs w vb bs) := hb
  have HVZ : Hid (Bi w vz zs) := hz
  have HBL : Hid (bs.length ≤ 100) := hbl
  have HZL : Hid (zs.length ≤ 30) := hzl
  have HZR : Hid (∀ z ∈ zs, -9223372036854775808 ≤ z ∧ z ≤ 9223372036854775807) := hzr
  obtain ⟨ab, nb, cb, rfl, hnb, hslb⟩ := hb
  obtain ⟨az, k, cz, rfl, hk, hcz⟩ := hz
  rw [← hnb] at hbl
  rw [← hk] at hzl
  have HNB : Hid (nb = bs.length) := hnb
  have HK : Hid (k = zs.length) := hk
  have HCZ : Hid (∀ (j : Nat) z, zs[j]? = some z → ∃ g o, az = some ⟨g, o, none⟩ ∧ w.cell? ⟨g, o + j, none⟩ = some (.int .i64 z)) := hcz
  clear hnb hslb hk hcz hzr
  have t1 : ¬ (100 : Int) < nb := by omega
  have t2 : ¬ (300 : Int) < s.size := by omega
  have t3 : ¬ (30 : Int) < k := by omega
  obtain ⟨T, hT⟩ : ∃ T, T = Pk.txt s.data.toList := ⟨_, rfl⟩
  have HT : Hid (T = Pk.txt s.data.toList) := hT
  have HTL : Hid (T.length = 8 + s.size) := by
    have h : T.length = 8 + s.size := by rw [hT, Pk.txt, List.length_append, Pk.be8_len]; rfl
    exact h
  obtain ⟨L, hL⟩ : ∃ L, L = bs ++ T ++ zs.flatMap Pk.be8 := ⟨_, rfl⟩
  have HL : Hid (L = bs ++ T ++ zs.flatMap Pk.be8) := hL
  have HLL : Hid (L.length = nb + 8 + s.size + 8 * k) := by
    have h : L.length = nb + 8 + s.size + 8 * k := by rw [hL, List.length_append, List.length_append, HTL.out, flat_len, HNB.out, HK.out]; omega
    exact h
  clear hT hL
  go_enter Try.func5, Try.ntmps5
  go_wp2_with fail
  refine (awake_any _).mono ?_
  rintro e w1 ⟨rfl, hb⟩
  have HB1 : Hid (Below w.heap.size w w1) := hb
  clear hb
  go_wp2_with (at_builtin; refine append_copy rfl _ _ rfl (.slice ab nb cb) bs w1 rfl rfl (HVB.out.below HB1.out) (by have := HBL.out; omega) ?_)
  intro v2 w2 hown hb
  have HS2 : Hid (Bs w2 v2 bs) := Bs.own hown
  have HB2 : Hid (Below w.heap.size w w2) := HB1.out.trans (hb.mono HB1.out.size)
  clear hown hb
  go_wp2_with fail
  refine (text_bs v2 bs s _ HS2.out (by have := HBL.out; omega) (by omega)).mono ?_
  rintro e w3 ⟨v3, rfl, hbs, hb⟩
  have HS3 : Hid (Bs w3 v3 (bs ++ T)) := by
    have h := hbs
    rw [← HT.out] at h
    exact h
  have HB3 : Hid (Below w.heap.size w w3) := HB2.out.trans (hb.mono HB2.out.size)
  clear hbs hb
  go_wp2_with fail
  refine (all_bs v3 _ _ zs _ HS3.out (HVZ.out.below HB3.out) (by rw [List.length_append, HTL.out]; have := HBL.out; omega) (by have := HZL.out; omega)).mono ?_
  rintro e w4 ⟨v4, rfl, hbs, hb⟩
  have HS4 : Hid (Bs w4 v4 L) := by
    have h := hbs
    rw [← HL.out] at h
    exact h
  have HB4 : Hid (Below w.heap.size w w4) := HB3.out.trans (hb.mono HB3.out.size)
  clear hbs hb
  go_wp2_with fail
  refine (refTxt_any _ bs s _ (HVB.out.below HB4.out) (by have := HBL.out; omega) (by omega)).mono ?_
  rintro e w5 ⟨v5, rfl, hbs, hb⟩
  have HS5 : Hid (Bs w5 v5 (bs ++ T)) := by
    have h := hbs
    rw [← HT.out] at h
    exact h
  have HX5 : Hid (Bs w5 v4 L) := HS4.out.below hb
  have HB5 : Hid (Below w.heap.size w w5) := HB4.out.trans (hb.mono HB4.out.size)
  clear hbs hb
  go_wp2
  go_loopw [8, 9] (fun y i wr => ∃ j : Nat, j ≤ k ∧ i = .int .i64 j ∧ Bs wr y (bs ++ T ++ (zs.take j).flatMap Pk.be8) ∧ Bs wr v4 L ∧ Below w.heap.size w wr) (fun _ i _ => k - (intOf i).toNat)
  case atStart => exact ⟨0, Nat.zero_le _, rfl, by simpa using HS5.out, HX5.out, HB5.out⟩
  case round =>
    obtain ⟨j, hj, rfl, hy, hx, hb⟩ := hrel
    have HY : Hid (Bs wr u8 (bs ++ T ++ (zs.take j).flatMap Pk.be8)) := hy
    have HX : Hid (Bs wr v4 L) := hx
    have HB6 : Hid (Below w.heap.size w wr) := hb
    clear hy hx hb
    by_cases hlt : j < k
    · obtain ⟨z, hz⟩ : ∃ z, zs[j]? = some z := ⟨zs[j]'(by rw [← HK.out]; exact hlt), List.getElem?_eq_getElem _⟩
      obtain ⟨g, o, rfl, hc⟩ := HCZ.out j z hz
      have hcell : wr.cell? ⟨g, o + j, none⟩ = some (.int .i64 z) := Below.kept HB6.out hc
      have HZ : Hid (zs[j]? = some z) := hz
      clear hz hc
      have hlt' : (j : Int) < k := by omega
      have HYL : Hid ((bs ++ T ++ (zs.take j).flatMap Pk.be8).length ≤ 100000) := by
        have h : (bs ++ T ++ (zs.take j).flatMap Pk.be8).length ≤ 100000 := by
          rw [List.length_append, List.length_append, HTL.out, flat_len, List.length_take]
          have := HBL.out
          omega
        exact h
      go_wp2_with (go_at_call 23; refine (refI64_bs u8 _ z _ HY.out HYL.out).mono ?_; rintro e w7 ⟨v7, rfl, hbs, hb⟩)
      have HY7 : Hid (Bs w7 v7 (bs ++ T ++ (zs.take (j + 1)).flatMap Pk.be8)) := by
        have h := hbs
        have e : bs ++ T ++ (zs.take (j + 1)).flatMap Pk.be8 = bs ++ T ++ (zs.take j).flatMap Pk.be8 ++ Pk.be8 z := by rw [flat_take zs j z HZ.out, List.append_assoc (bs ++ T)]
        show Bs w7 v7 (bs ++ T ++ (zs.take (j + 1)).flatMap Pk.be8)
        rw [e]
        simpa using h
      have HX7 : Hid (Bs w7 v4 L) := HX.out.below hb
      have HB7 : Hid (Below w.heap.size w w7) := HB6.out.trans (hb.mono HB6.out.size)
      clear hbs hb
      go_wp2
      go_roundw
      case rel => exact ⟨j + 1, by omega, by go_num, HY7.out, HX7.out, HB7.out⟩
      case measure => simp [intOf]; omega
    · have hlt' : ¬ (j : Int) < k := by omega
      have hfull : bs ++ T ++ (zs.take j).flatMap Pk.be8 = L := by rw [HL.out, List.take_of_length_le (by rw [← HK.out]; omega)]
      rw [hfull] at HY
      clear hfull
      obtain ⟨g, o, n, c, rfl, hn, hnc, hcells⟩ := HX.out.plain (by rw [HLL.out]; omega)
      have HCS : Hid (∀ (j : Nat) x, L[j]? = some x → wr.cell? ⟨g, o + j, none⟩ = some (.int .u8 (x.toNat : Int))) := hcells
      have HN2 : Hid (n = nb + 8 + s.size + 8 * k) := by
        have h : n = nb + 8 + s.size + 8 * k := by rw [hn, HLL.out]
        exact h
      have hge : nb + 8 ≤ n := by have := HN2.out; omega
      have hn1 : n ≤ 1000 := by have := HN2.out; omega
      have HN : Hid (n = L.length) := hn
      obtain ⟨X, hX⟩ : ∃ X : ByteArray, X = ⟨L.toArray⟩ := ⟨_, rfl⟩
      obtain ⟨Y, hY⟩ : ∃ Y : ByteArray, Y = ⟨bs.toArray⟩ := ⟨_, rfl⟩
      have hcx : ∀ q, (convert 25 9 (.slice (some ⟨g, o, none⟩) n c)).run Try.prog (wr.drewN q) = .ok (.string X) (wr.drewN q) := fun q => by rw [hX]; exact (HX.out.below (below_drewN (Below.refl _ wr) q)).conv
      have hcy : ∀ q, (convert 25 9 u8).run Try.prog (wr.drewN q) = .ok (.string X) (wr.drewN q) := fun q => by rw [hX]; exact (HY.out.below (below_drewN (Below.refl _ wr) q)).conv
      have hcb : ∀ q, (convert 25 9 (.slice ab nb cb)).run Try.prog (wr.drewN q) = .ok (.string Y) (wr.drewN q) := fun q => by rw [hY]; exact (HVB.out.below (below_drewN HB6.out q)).conv
      have hcc : ∀ q, (convert 25 9 (.slice (some ⟨g, o, none⟩) nb c)).run Try.prog (wr.drewN q) = .ok (.string Y) (wr.drewN q) := fun q => by
        have h := ((HX.out.below (below_drewN (Below.refl _ wr) q)).cut (k := nb) (by omega)).conv
        rw [HL.out, List.append_assoc, List.take_left' HNB.out.symm, ← hY] at h
        exact h
      have hl2 : (nb : Int) ≤ c := by omega
      clear hn hcells hX hY
      go_wp2
      have hxx : (X.toList == X.toList) = true := by simp
      have hyy : (Y.toList == Y.toList) = true := by simp
      have hl1 : decide ((n : Int) < nb) = false := by simp; omega
      have hl3 : decide (n < nb) = false := by simp; omega
      go_quiet (fail)
      clear hcx hcy hcb hcc hxx hyy hl1 hl3
      have hn4 : ¬ c = nb := by omega
      have hl5 : (nb : Int) ≤ n := by omega
      obtain ⟨F, hF⟩ : ∃ F, F = zs.flatMap Pk.be8 := ⟨_, rfl⟩
      have HF : Hid (F = zs.flatMap Pk.be8) := hF
      have HDL : Hid (L.drop nb = T ++ F) := by
        have h : L.drop nb = T ++ F := by rw [HL.out, List.append_assoc, List.drop_left' HNB.out.symm, hF]
        exact h
      have HSR : Hid (Bs (wr.drewN nq) (.slice (some ⟨g, o + nb, none⟩) (n - nb) (c - nb)) (T ++ F)) := by
        rw [← HDL.out]
        refine bs_of_plain (by rw [List.length_drop, HN.out]) (by omega) (fun i x hx => ?_)
        rw [List.getElem?_drop] at hx
        rw [Nat.add_assoc]
        exact HCS.out (nb + i) x hx
      have HSL : Hid ((T ++ F).length ≤ 100000) := by
        have h : (T ++ F).length ≤ 100000 := by rw [← HDL.out, List.length_drop, ← HN.out]; omega
        exact h
      have HB8 : Hid (Below w.heap.size w (wr.drewN nq)) := below_drewN HB6.out nq
      clear hF
      go_wp2_with fail
      refine (read_bs _ _ _ HSR.out HSL.out).mono ?_
      rintro e w9 ⟨q, rfl, hq, hr, hb⟩
      have HR9 : Hid (Rd w9 q (T ++ F) false) := hr
      have HB9 : Hid (Below w.heap.size w w9) := HB8.out.trans (hb.mono HB8.out.size)
      have HQ : Hid (w.heap.size ≤ q) := Nat.le_trans HB8.out.size hq
      clear hb hr hq
      go_wp2_with fail
      refine (rText_any q _ _ _ _ HR9.out).mono ?_
      rintro e w10 ⟨rfl, hr, hg⟩
      have hrt : Pk.rT s.size (T ++ F) false = (s.data.toList, F, false) := by
        rw [HT.out]
        exact Pk.rT_txt s.size s.data.toList F false (by have : s.data.toList.length = s.size := rfl; omega) (Int.le_refl _)
      rw [hrt] at hr ⊢
      clear hrt
      rw [show (⟨s.data.toList.toArray⟩ : ByteArray) = s from rfl]
      have HR10 : Hid (Rd w10 q F false) := hr
      have HB10 : Hid (Below w.heap.size w w10) := Below.reader HB9.out hg (Nat.le_refl _) HQ.out
      have hss : (s.toList == s.toList) = true := by simp
      clear hr hg
      go_wp2
      go_loopw [11] (fun i wq => ∃ j2 : Nat, j2 ≤ k ∧ i = .int .i64 j2 ∧ Rd wq q ((zs.drop j2).flatMap Pk.be8) false ∧ Below w.heap.size w wq) (fun i _ => k - (intOf i).toNat)
      case atStart => exact ⟨0, Nat.zero_le _, rfl, by rw [List.drop_zero, ← HF.out]; exact HR10.out, HB10.out⟩
      case round =>
        obtain ⟨j2, hj2, rfl, hr, hb⟩ := hrel
        have HR11 : Hid (Rd wr q ((zs.drop j2).flatMap Pk.be8) false) := hr
        have HB11 : Hid (Below w.heap.size w wr) := hb
        clear hr hb
        by_cases hlt2 : j2 < k
        · have hz0 : j2 < zs.length := by rw [← HK.out]; exact hlt2
          obtain ⟨z, hz⟩ : ∃ z, zs[j2]? = some z := ⟨zs[j2], List.getElem?_eq_getElem _⟩
          obtain ⟨g1, o1, rfl, hc⟩ := HCZ.out j2 z hz
          have hcell : wr.cell? ⟨g1, o1 + j2, none⟩ = some (.int .i64 z) := Below.kept HB11.out hc
          have HGQ : Hid (g1 < w.heap.size) := World.block_lt_of_cell? w _ hc
          have HZZ : Hid ((zs.drop j2).flatMap Pk.be8 = Pk.be8 z ++ (zs.drop (j2 + 1)).flatMap Pk.be8) := by
            have h : (zs.drop j2).flatMap Pk.be8 = Pk.be8 z ++ (zs.drop (j2 + 1)).flatMap Pk.be8 := by
              rw [List.drop_eq_getElem_cons hz0, List.flatMap_cons]
              rw [List.getElem?_eq_getElem hz0] at hz
              rw [Option.some.inj hz]
            exact h
          have HZI : Hid (-9223372036854775808 ≤ z ∧ z ≤ 9223372036854775807) := HZR.out z (List.mem_of_getElem? hz)
          have hlt' : (j2 : Int) < k := by omega
          have hj0 : (0 : Int) ≤ j2 := by omega
          have hzz : (z != z) = false := by simp
          clear hz hc hz0
          go_wp2
          go_region_with (go_at_call 13; refine (rI64_any q _ _ _ (HR11.out.below (Below.refl _ wr).drew)).mono ?_; rintro e w12 ⟨rfl, hr, hg⟩; rw [HZZ.out, Pk.rI_be8 _ _ _ HZI.out.1 HZI.out.2] at hr ⊢; have hcell12 : w12.cell? ⟨g1, o1 + j2, none⟩ = some (.int .i64 z) := hg.cell (a := ⟨g1, o1 + j2, none⟩) hcell (by have h1 := HGQ.out; have h2 := HQ.out; simp; omega); have HR12 : Hid (Rd w12 q ((zs.drop (j2 + 1)).flatMap Pk.be8) false) := hr; have HB12 : Hid (Below w.heap.size w w12) := Below.reader HB11.out.drew hg (Nat.le_refl _) HQ.out; clear hr hg)
          all_goals
            go_wp2
            go_roundw
            case rel => exact ⟨j2 + 1, by omega, by go_num, HR12.out, HB12.out⟩
            case measure => simp [intOf]; omega
        · have hlt' : ¬ (j2 : Int) < k := by omega
          have hend : (zs.drop j2).flatMap Pk.be8 = [] := by rw [List.drop_of_length_le (by rw [← HK.out]; omega)]; rfl
          rw [hend] at HR11
          clear hend
          go_wp2_with fail
          refine (rEnd_any q _ _ _ HR11.out).mono ?_
          rintro e wx ⟨rfl, hw⟩
          rw [hw]; clear hw wx
          go_wp2
          go_ret
          exact ⟨rfl, HB11.out⟩

set_option maxHeartbeats 1000000 in
theorem writes_many (vb : Value) (bs : List UInt8) (s : ByteArray) (vz : Value) (zs : List Int) (w : World) (hb : Bs w vb bs) (hz : Bi w vz zs) (hl1 : bs.length ≤ maxLen) (hl2 : s.size ≤ maxLen) (hl3 : zs.length ≤ maxLen) (h : 100 < bs.length ∨ 300 < s.size ∨ 30 < zs.length) :
    Calls Try.prog 5 #[vb, .string s, vz] w fun e w' => e = .returned (.bool true) ∧ Below w.heap.size w w' := by
  obtain ⟨ab, nb, cb, rfl, hnb, _⟩ := hb
  obtain ⟨az, k, cz, rfl, hk, _⟩ := hz
  rw [← hnb] at hl1 h
  rw [← hk] at hl3 h
  unfold maxLen at hl1 hl2 hl3
  clear hnb hk
  by_cases h1 : (100 : Int) < nb
  · clear h
    go_enter Try.func5, Try.ntmps5
    go_wp2_with fail
    refine (awake_any _).mono ?_
    rintro e w1 ⟨rfl, hb⟩
    have HB1 : Hid (Below w.heap.size w w1) := hb
    clear hb
    go_wp2
    go_ret
    exact ⟨rfl, HB1.out⟩
  by_cases h2 : (300 : Int) < s.size
  · clear h
    go_enter Try.func5, Try.ntmps5
    go_wp2_with fail
    refine (awake_any _).mono ?_
    rintro e w1 ⟨rfl, hb⟩
    have HB1 : Hid (Below w.heap.size w w1) := hb
    clear hb
    go_wp2
    go_ret
    exact ⟨rfl, HB1.out⟩
  · have h3 : (30 : Int) < k := by omega
    clear h
    go_enter Try.func5, Try.ntmps5
    go_wp2_with fail
    refine (awake_any _).mono ?_
    rintro e w1 ⟨rfl, hb⟩
    have HB1 : Hid (Below w.heap.size w w1) := hb
    clear hb
    go_wp2
    go_ret
    exact ⟨rfl, HB1.out⟩

theorem writes_any (vb : Value) (bs : List UInt8) (s : ByteArray) (vz : Value) (zs : List Int) (w : World) (hb : Bs w vb bs) (hz : Bi w vz zs) (hl1 : bs.length ≤ maxLen) (hl2 : s.size ≤ maxLen) (hl3 : zs.length ≤ maxLen) (hzr : ∀ z ∈ zs, -9223372036854775808 ≤ z ∧ z ≤ 9223372036854775807) :
    Calls Try.prog 5 #[vb, .string s, vz] w fun e w' => e = .returned (.bool true) ∧ Below w.heap.size w w' := by
  by_cases h : 100 < bs.length ∨ 300 < s.size ∨ 30 < zs.length
  · exact writes_many vb bs s vz zs w hb hz hl1 hl2 hl3 h
  · exact writes_few vb bs s vz zs w hb hz (by omega) (by omega) (by omega) hzr
end Go.Proofs.Yteloehalobampaa
