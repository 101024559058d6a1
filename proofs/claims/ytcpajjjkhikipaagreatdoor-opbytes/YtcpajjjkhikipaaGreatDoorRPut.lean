/- What the reference's Put answers. -/
import Derived.Test.YtcpajjjkhikipaaGreatDoorRMay
import Derived.Test.YtcpajjjkhikipaaGreatDoorLibV
import Derived.Test.YtcpajjjkhikipaaGreatDoorTakeAt
namespace Go.Proofs.YtcpajjjkhikipaaGreatDoor
open Go.RowKit

set_option maxRecDepth 20000 in
set_option maxHeartbeats 4000000 in
theorem refPut_any (s n : Int) (u : Value) (os : List O) (w : World) (hu : Ol w u os) (hS : Sane os) :
    Calls Tryz.prog 23 #[.agg #[.int .i64 s, .int .i64 n, u]] w fun e w' => ∃ v', e = .returned v' ∧ Bs w' v' (Oq.put s n os) ∧ Below w.heap.size w w' := by
  have HU : Hid (Ol w u os) := hu
  have HSN : Hid (Sane os) := hS
  have HBX : Hid (Box3 (w.alloc (.cells #[.int .i64 s, .int .i64 n, u] 39)) w.heap.size s n u) := Box3.made w s n u _
  have HB0 : Hid (Below w.heap.size w (w.alloc (.cells #[.int .i64 s, .int .i64 n, u] 39))) := (Below.refl _ w).alloc (Nat.le_refl _) _
  obtain ⟨R, hR⟩ : ∃ R : Int, R = Oq.may s n os := ⟨_, rfl⟩
  have HR : Hid (R = Oq.may s n os) := hR
  obtain ⟨au, m, cu, rfl, hm, _⟩ := hu
  have HM : Hid (m = os.length) := hm
  clear hR hS hm
  go_enter Tryz.func23, Tryz.ntmps23
  go_upto_region 1 with fail
  generalize w.alloc (.cells #[.int .i64 s, .int .i64 n, .slice au m cu] 39) = w1 at *
  obtain ⟨c0, c1, c2⟩ := HBX.out
  go_wp2_with fail
  refine (refMay_any s n _ os _ (HU.out.below HB0.out) HSN.out).mono ?_
  rintro e w2 ⟨rfl, hb⟩
  rw [← HR.out]
  have HB2 : Hid (Below w.heap.size w w2) := HB0.out.trans (hb.mono HB0.out.size)
  have HX2 : Hid (Box3 w2 w.heap.size s n (.slice au m cu)) := HBX.out.below hb
  clear hb c0 c1 c2
  by_cases hR0 : R = 0
  · have HP : Hid (Oq.put s n os = Oq.bytes s n os) := by
      have h : Oq.put s n os = Oq.bytes s n os := by unfold Oq.put; rw [← HR.out, if_pos hR0]
      exact h
    have HMS := may_sizes (HR.out.symm.trans hR0)
    have HMS : Hid (1 ≤ s ∧ 1 ≤ n ∧ 1 ≤ os.length ∧ os.length ≤ 16 ∧ ∀ o ∈ os, o.path.size ≤ 200 ∧ o.data.size ≤ 1000) := HMS
    have hm16 : m ≤ 16 := by rw [HM.out]; exact HMS.out.2.2.2.1
    subst hR0
    obtain ⟨c0, c1, c2⟩ := HX2.out
    have kk2 := HX2.out.all
    go_wp2
    go_region_held3 (fun w' => w'.cell? ⟨w.heap.size, 0, none⟩ = some (.int .i64 s) ∧ w'.cell? ⟨w.heap.size, 1, none⟩ = some (.int .i64 n) ∧ w'.cell? ⟨w.heap.size, 2, none⟩ = some (.slice au m cu)) (first | exact kk2 | exact kk3 | exact kk4 | exact kk5) (first
      | (go_at_call_of 50 (Value.slice none 0 0); refine (Pw.refI64_bs _ [] s _ (Bs.nil _) (by simp)).mono ?_; rintro e w3 ⟨v3, rfl, hbs3, hb0⟩; have hb3 := below_drew hb0; have HS3 : Hid (Bs w3 v3 (Pk.be8 s)) := hbs3; have HX3 : Hid (Box3 w3 w.heap.size s n (.slice au m cu)) := HX2.out.below hb3; have HB3 : Hid (Below w.heap.size w w3) := HB2.out.trans (hb3.mono HB2.out.size); have kk3 := HX3.out.all; clear hbs3 hb0 hb3)
      | (go_at_call_of 50 v3; refine (Pw.refI64_bs v3 (Pk.be8 s) n _ (HS3.out) (by rw [Pk.be8_len]; omega)).mono ?_; rintro e w4 ⟨v4, rfl, hbs4, hb0⟩; have hb4 := hb0; have HS4 : Hid (Bs w4 v4 (Pk.be8 s ++ Pk.be8 n)) := hbs4; have HX4 : Hid (Box3 w4 w.heap.size s n (.slice au m cu)) := HX3.out.below hb4; have HB4 : Hid (Below w.heap.size w w4) := HB3.out.trans (hb4.mono HB3.out.size); have kk4 := HX4.out.all; clear hbs4 hb0 hb4)
      | (go_at_call_of 50 v4; refine (Pw.refI64_bs v4 (Pk.be8 s ++ Pk.be8 n) (m : Int) _ (HS4.out) (by simp [Pk.be8_len])).mono ?_; rintro e w5 ⟨v5, rfl, hbs5, hb0⟩; have hb5 := hb0; have HS5 : Hid (Bs w5 v5 (Pk.be8 s ++ Pk.be8 n ++ Pk.be8 (m : Int))) := hbs5; have HX5 : Hid (Box3 w5 w.heap.size s n (.slice au m cu)) := HX4.out.below hb5; have HB5 : Hid (Below w.heap.size w w5) := HB4.out.trans (hb5.mono HB4.out.size); have kk5 := HX5.out.all; clear hbs5 hb0 hb5))
    clear kk2 kk3 kk4 kk5 c0 c1 c2
    have HBK : Hid (∀ k ≤ m, (Pk.be8 s ++ Pk.be8 n ++ Pk.be8 (m : Int) ++ (os.take k).flatMap Oq.obytes).length ≤ 30000) := fun k hk => by
      have h1 := flat_small (os := os.take k) (fun o ho => HMS.out.2.2.2.2 o (List.mem_of_mem_take ho))
      have h2 : (os.take k).length ≤ k := List.length_take_le k os
      simp only [List.length_append, Pk.be8_len]
      omega
    go_wp2
    go_loopw [3, 4] (fun f i wr => ∃ k : Nat, k ≤ m ∧ i = .int .i64 (k : Int) ∧ Bs wr f (Pk.be8 s ++ Pk.be8 n ++ Pk.be8 (m : Int) ++ (os.take k).flatMap Oq.obytes) ∧ Below w5.heap.size w5 wr) (fun _ i _ => ((m : Int) - intOf i).toNat)
    case atStart => exact ⟨0, Nat.zero_le _, rfl, by simpa using HS5.out, Below.refl _ _⟩
    case round =>
      obtain ⟨k, hk, rfl, hf, hb⟩ := hrel
      have HF : Hid (Bs wr u3 (Pk.be8 s ++ Pk.be8 n ++ Pk.be8 (m : Int) ++ (os.take k).flatMap Oq.obytes)) := hf
      have HB6 : Hid (Below w5.heap.size w5 wr) := hb
      have HB : Hid (Below w.heap.size w wr) := HB5.out.trans (hb.mono HB5.out.size)
      obtain ⟨d0, d1, d2⟩ := HX5.out.below hb
      clear hf hb
      by_cases hlt : k < m
      · have hlt' : (k : Int) < (m : Int) := by omega
        have hkl : k < os.length := by rw [← HM.out]; exact hlt
        obtain ⟨g, b, c', hv', hcs⟩ := (HU.out.below HB.out).at (by omega)
        simp only [Value.slice.injEq] at hv'
        obtain ⟨rfl, hq, rfl⟩ := hv'
        obtain ⟨e0, e1, e2, e3, e4⟩ := hcs k os[k] (List.getElem?_eq_getElem hkl)
        have HK : Hid (os[k]? = some os[k] ∧ os[k].path.size ≤ 200 ∧ os[k].data.size ≤ 1000) := ⟨List.getElem?_eq_getElem hkl, HMS.out.2.2.2.2 _ (List.getElem_mem hkl)⟩
        generalize os[k] = o at *
        clear hcs hq hkl
        obtain ⟨G, hGe⟩ : ∃ G, G = Pk.be8 s ++ Pk.be8 n ++ Pk.be8 (m : Int) ++ (os.take k).flatMap Oq.obytes := ⟨_, rfl⟩
        have hG : G.length ≤ 30000 := by rw [hGe]; exact HBK.out k (by omega)
        have HGE : Hid (G = Pk.be8 s ++ Pk.be8 n ++ Pk.be8 (m : Int) ++ (os.take k).flatMap Oq.obytes) := hGe
        clear hGe
        go_wp2
        obtain ⟨q, hq⟩ : ∃ q, q = wr.heap.size := ⟨_, rfl⟩
        have HX7 : Hid (Box5 (wr.alloc (.cells #[.int .i64 o.kind, .string o.path, .string o.data, .int .i64 o.ver, .int .i64 o.flags] 24)) q o) := by rw [hq]; exact Box5.made wr o _
        have hal : Below wr.heap.size wr (wr.alloc (.cells #[.int .i64 o.kind, .string o.path, .string o.data, .int .i64 o.ver, .int .i64 o.flags] 24)) := (Below.refl _ wr).alloc (Nat.le_refl _) _
        have HS7 : Hid (Bs (wr.alloc (.cells #[.int .i64 o.kind, .string o.path, .string o.data, .int .i64 o.ver, .int .i64 o.flags] 24)) u3 G) := by
          have h := HF.out.below hal
          rw [← HGE.out] at h
          exact h
        have HB7 : Hid (Below w.heap.size w (wr.alloc (.cells #[.int .i64 o.kind, .string o.path, .string o.data, .int .i64 o.ver, .int .i64 o.flags] 24))) := HB.out.trans (hal.mono HB.out.size)
        have HC7 : Hid (Below w5.heap.size w5 (wr.alloc (.cells #[.int .i64 o.kind, .string o.path, .string o.data, .int .i64 o.ver, .int .i64 o.flags] 24))) := HB6.out.trans (hal.mono HB6.out.size)
        rw [← hq]
        clear hal hq e0 e1 e2 e3 e4 d0 d1 d2
        generalize wr.alloc (.cells #[.int .i64 o.kind, .string o.path, .string o.data, .int .i64 o.ver, .int .i64 o.flags] 24) = w7 at *
        have kk7 := HX7.out.all
        go_region_held3 (fun w' => w'.cell? ⟨q, 0, none⟩ = some (.int .i64 o.kind) ∧ w'.cell? ⟨q, 1, none⟩ = some (.string o.path) ∧ w'.cell? ⟨q, 2, none⟩ = some (.string o.data) ∧ w'.cell? ⟨q, 3, none⟩ = some (.int .i64 o.ver) ∧ w'.cell? ⟨q, 4, none⟩ = some (.int .i64 o.flags)) (first | exact kk7 | exact kk8 | exact kk9 | exact kk10) (first
          | (go_at_call_of 50 u3; refine (Pw.refI64_bs u3 G o.kind _ (HS7.out.below (Below.refl _ _).drew) (by omega)).mono ?_; rintro e w8 ⟨v8, rfl, hbs8, hb0⟩; have hb8 := below_drew hb0; have HS8 : Hid (Bs w8 v8 (G ++ Pk.be8 o.kind)) := hbs8; have HX8 : Hid (Box5 w8 q o) := HX7.out.below hb8; have HB8 : Hid (Below w.heap.size w w8) := HB7.out.trans (hb8.mono HB7.out.size); have HC8 : Hid (Below w5.heap.size w5 w8) := HC7.out.trans (hb8.mono HC7.out.size); have kk8 := HX8.out.all; clear hbs8 hb0 hb8)
          | (go_at_call_of 51 v8; refine (Pw.refTxt_any v8 (G ++ Pk.be8 o.kind) o.path _ (HS8.out) (by (try simp only [List.length_append, Pk.be8_len]); have := HK.out; have h1 : o.path.data.toList.length = o.path.size := rfl; have h2 : o.data.data.toList.length = o.data.size := rfl; omega) (by have := HK.out; omega)).mono ?_; rintro e w9 ⟨v9, rfl, hbs9, hb0⟩; have hb9 := hb0; have HS9 : Hid (Bs w9 v9 (G ++ Pk.be8 o.kind ++ Pk.txt o.path.data.toList)) := hbs9; have HX9 : Hid (Box5 w9 q o) := HX8.out.below hb9; have HB9 : Hid (Below w.heap.size w w9) := HB8.out.trans (hb9.mono HB8.out.size); have HC9 : Hid (Below w5.heap.size w5 w9) := HC8.out.trans (hb9.mono HC8.out.size); have kk9 := HX9.out.all; clear hbs9 hb0 hb9)
          | (go_at_call_of 51 v9; refine (Pw.refTxt_any v9 (G ++ Pk.be8 o.kind ++ Pk.txt o.path.data.toList) o.data _ (HS9.out) (by (try simp only [List.length_append, Pk.be8_len, Pk.txt]); have := HK.out; have h1 : o.path.data.toList.length = o.path.size := rfl; have h2 : o.data.data.toList.length = o.data.size := rfl; omega) (by have := HK.out; omega)).mono ?_; rintro e w10 ⟨v10, rfl, hbs10, hb0⟩; have hb10 := hb0; have HS10 : Hid (Bs w10 v10 (G ++ Pk.be8 o.kind ++ Pk.txt o.path.data.toList ++ Pk.txt o.data.data.toList)) := hbs10; have HX10 : Hid (Box5 w10 q o) := HX9.out.below hb10; have HB10 : Hid (Below w.heap.size w w10) := HB9.out.trans (hb10.mono HB9.out.size); have HC10 : Hid (Below w5.heap.size w5 w10) := HC9.out.trans (hb10.mono HC9.out.size); have kk10 := HX10.out.all; clear hbs10 hb0 hb10))
        clear kk7 kk8 kk9
        go_wp2
        go_region_held3 (fun w' => w'.cell? ⟨q, 0, none⟩ = some (.int .i64 o.kind) ∧ w'.cell? ⟨q, 1, none⟩ = some (.string o.path) ∧ w'.cell? ⟨q, 2, none⟩ = some (.string o.data) ∧ w'.cell? ⟨q, 3, none⟩ = some (.int .i64 o.ver) ∧ w'.cell? ⟨q, 4, none⟩ = some (.int .i64 o.flags)) (first | exact kk10 | exact kk11 | exact kk12) (first
          | (go_at_call_of 50 v10; refine (Pw.refI64_bs v10 (G ++ Pk.be8 o.kind ++ Pk.txt o.path.data.toList ++ Pk.txt o.data.data.toList) o.ver _ (HS10.out.below (Below.refl _ _).drew) (by (try simp only [List.length_append, Pk.be8_len, Pk.txt]); have := HK.out; have h1 : o.path.data.toList.length = o.path.size := rfl; have h2 : o.data.data.toList.length = o.data.size := rfl; omega)).mono ?_; rintro e w11 ⟨v11, rfl, hbs11, hb0⟩; have hb11 := below_drew hb0; have HS11 : Hid (Bs w11 v11 (G ++ Pk.be8 o.kind ++ Pk.txt o.path.data.toList ++ Pk.txt o.data.data.toList ++ Pk.be8 o.ver)) := hbs11; have HX11 : Hid (Box5 w11 q o) := HX10.out.below hb11; have HB11 : Hid (Below w.heap.size w w11) := HB10.out.trans (hb11.mono HB10.out.size); have HC11 : Hid (Below w5.heap.size w5 w11) := HC10.out.trans (hb11.mono HC10.out.size); have kk11 := HX11.out.all; clear hbs11 hb0 hb11)
          | (go_at_call_of 50 v11; refine (Pw.refI64_bs v11 (G ++ Pk.be8 o.kind ++ Pk.txt o.path.data.toList ++ Pk.txt o.data.data.toList ++ Pk.be8 o.ver) o.flags _ (HS11.out) (by (try simp only [List.length_append, Pk.be8_len, Pk.txt]); have := HK.out; have h1 : o.path.data.toList.length = o.path.size := rfl; have h2 : o.data.data.toList.length = o.data.size := rfl; omega)).mono ?_; rintro e w12 ⟨v12, rfl, hbs12, hb0⟩; have hb12 := hb0; have HS12 : Hid (Bs w12 v12 (G ++ Pk.be8 o.kind ++ Pk.txt o.path.data.toList ++ Pk.txt o.data.data.toList ++ Pk.be8 o.ver ++ Pk.be8 o.flags)) := hbs12; have HX12 : Hid (Box5 w12 q o) := HX11.out.below hb12; have HB12 : Hid (Below w.heap.size w w12) := HB11.out.trans (hb12.mono HB11.out.size); have HC12 : Hid (Below w5.heap.size w5 w12) := HC11.out.trans (hb12.mono HC11.out.size); have kk12 := HX12.out.all; clear hbs12 hb0 hb12))
        clear kk10 kk11 kk12
        have HE : Hid (Bs w12 v12 (Pk.be8 s ++ Pk.be8 n ++ Pk.be8 (m : Int) ++ (os.take (k + 1)).flatMap Oq.obytes)) := by
          have h : Bs w12 v12 (Pk.be8 s ++ Pk.be8 n ++ Pk.be8 (m : Int) ++ (os.take (k + 1)).flatMap Oq.obytes) := by
            have e : Pk.be8 s ++ Pk.be8 n ++ Pk.be8 (m : Int) ++ (os.take (k + 1)).flatMap Oq.obytes = G ++ Pk.be8 o.kind ++ Pk.txt o.path.data.toList ++ Pk.txt o.data.data.toList ++ Pk.be8 o.ver ++ Pk.be8 o.flags := by
              rw [List.take_add_one, HK.out.1, List.flatMap_append, HGE.out]
              simp [Oq.obytes]
            rw [e]
            exact HS12.out
          exact h
        go_wp2
        go_roundw
        case rel => exact ⟨k + 1, by omega, by go_num, HE.out, HC12.out⟩
        case measure => simp [intOf]; omega
      · have hlt' : ¬ (k : Int) < (m : Int) := by omega
        have HE : Hid (Bs wr u3 (Oq.put s n os)) := by
          have h := HF.out
          rw [List.take_of_length_le (by rw [← HM.out]; omega)] at h
          rw [HP.out]
          unfold Oq.bytes
          rw [← HM.out]
          exact h
        go_wp2
        go_ret
        exact ⟨_, rfl, HE.out, HB.out⟩
  · have HP : Hid (Oq.put s n os = []) := by
      have h : Oq.put s n os = [] := by unfold Oq.put; rw [← HR.out, if_neg hR0]
      exact h
    obtain ⟨c0, c1, c2⟩ := HX2.out
    go_wp2
    go_ret
    refine ⟨_, rfl, ?_, HB2.out⟩
    rw [HP.out]
    exact Bs.nil _
end Go.Proofs.YtcpajjjkhikipaaGreatDoor
