/- What the reference's Tops answers, over what its Top answers. -/
import Derived.Test.YtcpajjjkhikipaaGreatDoorTopsSteps
import Derived.Test.YtcpajjjkhikipaaGreatDoorTakeAt
namespace Go.Proofs.YtcpajjjkhikipaaGreatDoor
open Go.RowKit

set_option maxRecDepth 20000 in
set_option maxHeartbeats 4000000 in
theorem refTops_any (hT : RefTop) (u : Value) (os : List O) (w : World) (hu : Ol w u os) (hl : os.length ≤ 1000) (hS : ∀ o ∈ os, o.path.size ≤ maxLen) :
    Calls Tryz.prog 20 #[u] w fun e w' => ∃ v ts, e = .returned v ∧ Ss w' v ts ∧ Ts.Tops os (ts.map (·.data.toList)) ∧ Below w.heap.size w w' := by
  have HT : Hid RefTop := hT
  have HU : Hid (Ol w u os) := hu
  have HSN : Hid (∀ o ∈ os, o.path.size ≤ maxLen) := hS
  obtain ⟨au, m, cu, rfl, hm, hx⟩ := hu
  have HM : Hid (m = os.length) := hm
  have hm1 : m ≤ 1000 := by omega
  clear hm hx hS hl hT
  go_enter Tryz.func20, Tryz.ntmps20
  go_wp2
  go_loopw [3, 4] (fun t i wr => ∃ (k : Nat) (ts : List ByteArray), k ≤ m ∧ i = .int .i64 (k : Int) ∧ Tf wr t ts ∧ ts.length ≤ k ∧ Ts.Tops (os.take k) (ts.map (·.data.toList)) ∧ Below w.heap.size w wr) (fun _ i _ => ((m : Int) - intOf i).toNat)
  case atStart => exact ⟨0, [], Nat.zero_le _, rfl, Or.inl ⟨rfl, rfl⟩, Nat.le_refl _, ⟨by unfold Ts.Rises; simp, fun x => by simp⟩, Below.refl _ _⟩
  case round =>
    obtain ⟨k, ts, hk, rfl, htf, htl, htops, hb⟩ := hrel
    have HTF : Hid (Tf wr u3 ts) := htf
    have HTP : Hid (ts.length ≤ k ∧ Ts.Tops (os.take k) (ts.map (·.data.toList))) := ⟨htl, htops⟩
    have HB : Hid (Below w.heap.size w wr) := hb
    clear htf htl htops hb
    by_cases hlt : k < m
    · have hlt' : (k : Int) < (m : Int) := by omega
      have hkl : k < os.length := by rw [← HM.out]; exact hlt
      obtain ⟨g, b, c', hv', hcs⟩ := (HU.out.below HB.out).at (by omega)
      simp only [Value.slice.injEq] at hv'
      obtain ⟨rfl, hq, rfl⟩ := hv'
      obtain ⟨e0, e1, e2, e3, e4⟩ := hcs k os[k] (List.getElem?_eq_getElem hkl)
      have HK : Hid (os[k]? = some os[k] ∧ os[k].path.size ≤ maxLen) := ⟨List.getElem?_eq_getElem hkl, HSN.out _ (List.getElem_mem hkl)⟩
      generalize os[k] = o at *
      clear hcs hq hkl
      go_wp2_with fail
      refine (HT.out o.path _ HK.out.2).mono ?_
      rintro e w2 ⟨x, rfl, hx, hb⟩
      have HX : Hid (x.data.toList = Pl.top o.path.data.toList) := hx
      have HB2 : Hid (Below w.heap.size w w2) := HB.out.trans (hb.mono HB.out.size)
      have HTF2 : Hid (Tf w2 u3 ts) := HTF.out.below hb
      clear hx hb e0 e1 e2 e3 e4
      obtain ⟨ta, tl, tc, rfl, htl⟩ : ∃ ta tl tc, u3 = .slice ta tl tc ∧ tl = ts.length := by
        rcases HTF2.out with ⟨rfl, rfl⟩ | ⟨g, c, rfl, _⟩
        · exact ⟨_, _, _, rfl, rfl⟩
        · exact ⟨_, _, _, rfl, rfl⟩
      have HTL : Hid (tl = ts.length) := htl
      have htlm : tl ≤ 1000 := by have := HTP.out.1; omega
      clear htl
      go_wp2
      go_loopw [6] (fun i wq => ∃ q : Nat, q ≤ tl ∧ i = .int .i64 (q : Int) ∧ (∀ (j : Nat) y, j < q → ts[j]? = some y → Op.bytesLess y.toList x.toList = true) ∧ wq = w2) (fun i _ => ((tl : Int) - intOf i).toNat)
      case atStart => exact ⟨0, Nat.zero_le _, rfl, fun j y hj => by omega, rfl⟩
      case round =>
        obtain ⟨q, hq, rfl, hlow, hwq⟩ := hrel
        subst hwq
        have HLOW : Hid (∀ (j : Nat) y, j < q → ts[j]? = some y → Op.bytesLess y.toList x.toList = true) := hlow
        clear hlow
        cases hxe : x.toList.isEmpty with
        | true =>
          have HXT : Hid (Pl.top o.path.data.toList = []) := by
            have h : Pl.top o.path.data.toList = [] := by
              rw [← HX.out]
              rw [ByteArray.toList_eq] at hxe
              exact List.isEmpty_iff.1 hxe
            exact h
          by_cases hq1 : q < tl
          · have hq1' : (q : Int) < (tl : Int) := by omega
            obtain ⟨g2, hta, hcells⟩ : ∃ g, ta = some ⟨g, 0, none⟩ ∧ ∀ (j : Nat) s, ts[j]? = some s → wr.cell? ⟨g, j, none⟩ = some (.string s) := Tf.first HTF2.out (by omega)
            subst hta
            obtain ⟨y, hy⟩ : ∃ y, ts[q]? = some y := ⟨_, List.getElem?_eq_getElem (by rw [← HTL.out]; exact hq1)⟩
            have HY : Hid (ts[q]? = some y) := hy
            have hcq := hcells q y hy
            clear hcells hy
            by_cases hle : Op.bytesLess y.toList x.toList = true
            · go_wp2
              go_roundw
              case rel => exact ⟨q + 1, by omega, by go_num, low_more HLOW.out HY.out hle, trivial⟩
              case measure => simp [intOf]; omega
            · have hle' : Op.bytesLess y.toList x.toList = false := by simpa using hle
              have HSAME : Hid (Ts.Tops (os.take (k + 1)) (ts.map (·.data.toList))) := by
                have h : Ts.Tops (os.take (k + 1)) (ts.map (·.data.toList)) := by
                  rw [take_more HK.out.1]
                  exact Ts.tops_same HTP.out.2 (Or.inl HXT.out)
                exact h
              go_wp2
              go_roundw
              case rel => exact ⟨k + 1, ts, by omega, by go_num, HTF2.out, by have := HTP.out.1; omega, HSAME.out, HB2.out⟩
              case measure => simp [intOf]; omega
          · have hq1' : ¬ (q : Int) < (tl : Int) := by omega
            have HSAME : Hid (Ts.Tops (os.take (k + 1)) (ts.map (·.data.toList))) := by
              have h : Ts.Tops (os.take (k + 1)) (ts.map (·.data.toList)) := by
                rw [take_more HK.out.1]
                exact Ts.tops_same HTP.out.2 (Or.inl HXT.out)
              exact h
            go_wp2
            go_roundw
            case rel => exact ⟨k + 1, ts, by omega, by go_num, HTF2.out, by have := HTP.out.1; omega, HSAME.out, HB2.out⟩
            case measure => simp [intOf]; omega
        | false =>
          have HXE : Hid (x.toList.isEmpty = false) := hxe
          by_cases hq1 : q < tl
          · have hq1' : (q : Int) < (tl : Int) := by omega
            obtain ⟨g2, hta, hcells⟩ : ∃ g, ta = some ⟨g, 0, none⟩ ∧ ∀ (j : Nat) s, ts[j]? = some s → wr.cell? ⟨g, j, none⟩ = some (.string s) := Tf.first HTF2.out (by omega)
            have HTC : Hid (tl ≤ tc) := Tf.cap HTF2.out
            have HCL : Hid (∀ (j : Nat) s, ts[j]? = some s → wr.cell? ⟨g2, j, none⟩ = some (.string s)) := hcells
            subst hta
            obtain ⟨y, hy⟩ : ∃ y, ts[q]? = some y := ⟨_, List.getElem?_eq_getElem (by rw [← HTL.out]; exact hq1)⟩
            have HY : Hid (ts[q]? = some y) := hy
            have hcq := hcells q y hy
            clear hcells hy
            by_cases hle : Op.bytesLess y.toList x.toList = true
            · go_wp2
              go_roundw
              case rel => exact ⟨q + 1, by omega, by go_num, low_more HLOW.out HY.out hle, trivial⟩
              case measure => simp [intOf]; omega
            · have hle' : Op.bytesLess y.toList x.toList = false := by simpa using hle
              have HLE : Hid (Op.bytesLess y.toList x.toList = false) := hle'
              cases heq : (y.toList == x.toList) with
              | true =>
                have HIN : Hid (Pl.top o.path.data.toList ∈ ts.map (·.data.toList)) := by
                  have h : Pl.top o.path.data.toList ∈ ts.map (·.data.toList) := by
                    rw [← HX.out]
                    rw [ByteArray.toList_eq, ByteArray.toList_eq] at heq
                    rw [← eq_of_beq heq]
                    exact List.mem_map_of_mem (List.mem_of_getElem? HY.out)
                  exact h
                have HSAME : Hid (Ts.Tops (os.take (k + 1)) (ts.map (·.data.toList))) := by
                  have h : Ts.Tops (os.take (k + 1)) (ts.map (·.data.toList)) := by
                    rw [take_more HK.out.1]
                    exact Ts.tops_same HTP.out.2 (Or.inr HIN.out)
                  exact h
                go_wp2
                go_roundw
                case rel => exact ⟨k + 1, ts, by omega, by go_num, HTF2.out, by have := HTP.out.1; omega, HSAME.out, HB2.out⟩
                case measure => simp [intOf]; omega
              | false =>
                have HEQ : Hid ((y.toList == x.toList) = false) := heq
                have hqc : (q : Int) ≤ (tc : Int) := by have := HTC.out; omega
                have hqt : (q : Int) ≤ (tl : Int) := by omega
                have hqn : ¬ tc = q := by have := HTC.out; omega
                have htc : (tl : Int) ≤ (tc : Int) := by have := HTC.out; omega
                have HNEW : Hid (Ts.Tops (os.take (k + 1)) ((ts.take q ++ [x] ++ ts.drop q).map (·.data.toList))) := by
                  have h : Ts.Tops (os.take (k + 1)) ((ts.take q ++ [x] ++ ts.drop q).map (·.data.toList)) := by
                    rw [take_more HK.out.1, List.map_append, List.map_append, List.map_take, List.map_drop, List.map_singleton, HX.out]
                    refine Ts.tops_new HTP.out.2 (by rw [List.length_map]; have := HTL.out; omega) (fun e => ?_) (fun j y hj hy => ?_) (fun y hy => ?_)
                    · rw [← HX.out] at e
                      have := HXE.out
                      rw [ByteArray.toList_eq, e] at this
                      cases this
                    · rw [List.getElem?_map] at hy
                      obtain ⟨z, hz, rfl⟩ := Option.map_eq_some_iff.1 hy
                      have := HLOW.out j z hj hz
                      rw [ByteArray.toList_eq, ByteArray.toList_eq, HX.out] at this
                      exact this
                    · rw [List.getElem?_map] at hy
                      obtain ⟨z, hz, rfl⟩ := Option.map_eq_some_iff.1 hy
                      have h1 : z = y := by rw [HY.out] at hz; exact (Option.some.inj hz).symm
                      subst h1
                      have h2 := HLE.out
                      have h3 := HEQ.out
                      rw [ByteArray.toList_eq, ByteArray.toList_eq, HX.out] at h2
                      refine ⟨h2, fun e => ?_⟩
                      rw [ByteArray.toList_eq, ByteArray.toList_eq, HX.out, e] at h3
                      simp at h3

                  exact h
                go_wp2
                have HSR : Hid (Src wr.drew (.slice (some ⟨g2, 0, none⟩) q tc) (ts.take q) ∧ Src wr.drew (.slice (some ⟨g2, q, none⟩) (tl - q) (tc - q)) (ts.drop q)) := src_two HTL.out hq HCL.out
                have HBW : Hid (Below w.heap.size w wr.drew) := HB2.out.drew
                have hmx : (ts.take q).length + 1 + (ts.drop q).length = tl + 1 := by rw [List.length_take, List.length_drop]; have := HTL.out; omega
                have HMX : Hid ((ts.take q).length + 1 + (ts.drop q).length = tl + 1) := hmx
                clear hmx
                obtain ⟨W, hW⟩ : ∃ W, W = wr.drew := ⟨_, rfl⟩
                rw [← hW] at HSR HBW
                refine wp_region_held_drew (S := (fun w' => Below W.heap.size W w')) (by kernel_rfl) (by rw [hW]; exact Below.refl _ _) (fun hHeld => ?_)
                rw [← hW]
                clear hW hHeld
                have hHeld : Below W.heap.size W W := Below.refl _ W
                refine' take_at (i := 1) (d := 50) (v := _) rfl rfl (by kernel_rfl) (by kernel_rfl) (by kernel_rfl) (fun _ _ _ h => h) (Or.inl ⟨by rfl, ?h1⟩) (by assumption) ?_
                case h1 => intro w hSw; go_simp; with_reducible rfl
                simp only [List.setIfInBounds_toArray, List.set_cons_zero, List.set_cons_succ]
                refine' take_at (i := 2) (d := 51) (v := _) rfl rfl (by kernel_rfl) (by kernel_rfl) (by kernel_rfl) (fun _ _ _ h => h) (Or.inl ⟨by rfl, ?h2⟩) (by assumption) ?_
                case h2 => intro w hSw; go_simp; with_reducible rfl
                simp only [List.setIfInBounds_toArray, List.set_cons_zero, List.set_cons_succ]
                refine' take_at (i := 3) (d := 52) (v := _) rfl rfl (by kernel_rfl) (by kernel_rfl) (by kernel_rfl) (fun _ _ _ h => h) (Or.inl ⟨by rfl, ?h3⟩) (by assumption) ?_
                case h3 => intro w hSw; go_simp; with_reducible rfl
                simp only [List.setIfInBounds_toArray, List.set_cons_zero, List.set_cons_succ]
                refine' take_at (i := 5) (d := 54) (v := _) rfl rfl (by kernel_rfl) (by kernel_rfl) (by kernel_rfl) (fun _ _ _ h => h) (Or.inl ⟨by rfl, ?h5⟩) (by assumption) ?_
                case h5 => intro w hSw; go_simp; with_reducible rfl
                simp only [List.setIfInBounds_toArray, List.set_cons_zero, List.set_cons_succ]
                refine' take_at (i := 8) (d := 57) (v := _) rfl rfl (by kernel_rfl) (by kernel_rfl) (by kernel_rfl) (fun _ _ _ h => h) (Or.inl ⟨by rfl, ?h8⟩) (by assumption) ?_
                case h8 => intro w hSw; go_simp; with_reducible rfl
                simp only [List.setIfInBounds_toArray, List.set_cons_zero, List.set_cons_succ]
                refine' take_at (i := 9) (d := 58) (v := _) rfl rfl (by kernel_rfl) (by kernel_rfl) (by kernel_rfl) (fun _ _ _ h => h) (Or.inl ⟨by rfl, ?h9⟩) (by assumption) ?_
                case h9 => intro w hSw; go_simp; with_reducible rfl
                simp only [List.setIfInBounds_toArray, List.set_cons_zero, List.set_cons_succ]
                refine' take_at (i := 10) (d := 59) (v := (.slice (some ⟨g2, q, none⟩) (tl - q) (tc - q))) rfl rfl (by kernel_rfl) (by kernel_rfl) (by kernel_rfl) (fun _ _ _ h => h) (Or.inl ⟨by rfl, ?h10⟩) (by assumption) ?_
                case h10 => intro w hSw; go_simp; (try (first | with_reducible rfl | (intro e; omega)))
                simp only [List.setIfInBounds_toArray, List.set_cons_zero, List.set_cons_succ]
                refine wpAnyH_ready (rs := [0, 6]) (by kernel_rfl) (by simp) ?_
                refine AllReadyH.cons (o := _) rfl (fun K hK => ?_) (AllReadyH.cons (o := _) rfl (fun K hK => ?_) AllReadyH.nil)
                · go_simp
                  have HBWa : Hid (Below W.heap.size W (W.alloc (.cells #[] 9))) := (Below.refl _ W).alloc (Nat.le_refl _) _
                  obtain ⟨q0, hq0⟩ : ∃ q0, q0 = W.heap.size := ⟨_, rfl⟩
                  obtain ⟨v0, hv0⟩ : ∃ v, v = Value.slice (some ⟨q0, 0, none⟩) 0 0 := ⟨_, rfl⟩
                  have HOWa : Hid ((W.alloc (.cells #[] 9)).ownsRow W.heap.size 9 1 v0 ([] : List ByteArray).length (sc [])) := by
                    rw [hv0, hq0]
                    exact World.ownsRow_made W #[] 0 (Nat.le_refl _) (by decide) rfl
                  have HV0 : Hid (v0.ownBlock = some q0) := by
                    have h : v0.ownBlock = some q0 := by rw [hv0]; rfl
                    exact h
                  rw [← hq0, ← hv0]
                  clear hv0 hq0
                  clear hHeld
                  refine hK.out _ _ HBWa.out (fun hHeld => ?_)
                  clear hK K
                  generalize W.alloc (.cells #[] 9) = Wa at *
                  refine wpAnyH_ready (rs := [4, 6]) (by kernel_rfl) (by simp) ?_
                  refine AllReadyH.cons (o := _) rfl (fun K hK => ?_) (AllReadyH.cons (o := _) rfl (fun K hK => ?_) AllReadyH.nil)
                  · refine wp_strs _ _ rfl W.heap.size v0 (.slice (some ⟨g2, 0, none⟩) q tc) [] (ts.take q) Wa rfl rfl HOWa.out HBWa.out.size (HSR.out.1.below HBWa.out) (by have := HMX.out; simp only [List.length_nil]; omega) ?_
                    intro v1 Wb ho hb hg
                    have HOWb : Hid (Wb.ownsRow W.heap.size 9 1 v1 (ts.take q).length (sc (ts.take q))) := ho
                    have HBWb : Hid (Below W.heap.size W Wb) := HBWa.out.trans hb
                    clear ho hb hg
                    go_simp
                    clear hHeld
                    refine hK.out _ _ HBWb.out (fun hHeld => ?_)
                    clear hK K
                    refine wpAnyH_ready (rs := [6]) (by kernel_rfl) (by simp) ?_
                    refine AllReadyH.cons (o := _) rfl (fun K hK => ?_) AllReadyH.nil
                    go_simp
                    have HBWc : Hid (Below W.heap.size W (Wb.alloc (.cells #[.string x] 9))) := (HBWb.out).alloc (HBWb.out.size) _
                    have HSWc : Hid (Src (Wb.alloc (.cells #[.string x] 9)) (.slice (some ⟨Wb.heap.size, 0, none⟩) 1 1) [x]) := Src.one Wb x _
                    have HQWc : Hid (Wb.heap.size < (Wb.alloc (.cells #[.string x] 9)).heap.size) := by
                      have h : Wb.heap.size < (Wb.alloc (.cells #[.string x] 9)).heap.size := by simp
                      exact h
                    have HOWc : Hid ((Wb.alloc (.cells #[.string x] 9)).ownsRow W.heap.size 9 1 v1 ((ts.take q) : List ByteArray).length (sc (ts.take q))) := HOWb.out.alloc _
                    obtain ⟨qx, hqx⟩ : ∃ q0, q0 = Wb.heap.size := ⟨_, rfl⟩
                    rw [← hqx] at HSWc HQWc
                    rw [← hqx]
                    clear hqx
                    clear hHeld
                    refine hK.out _ _ HBWc.out (fun hHeld => ?_)
                    clear hK K
                    generalize Wb.alloc (.cells #[.string x] 9) = Wc at *
                    refine wpAnyH_ready (rs := [7]) (by kernel_rfl) (by simp) ?_
                    refine AllReadyH.cons (o := _) rfl (fun K hK => ?_) AllReadyH.nil
                    refine wp_strs _ _ rfl W.heap.size v1 (.slice (some ⟨qx, 0, none⟩) 1 1) (ts.take q) [x] Wc rfl rfl HOWc.out HBWc.out.size HSWc.out (by have := HMX.out; simp only [List.length_cons, List.length_nil]; omega) ?_
                    intro v2 Wd ho hb hg
                    have HOd : Hid (Wd.ownsRow W.heap.size 9 1 v2 (ts.take q ++ [x]).length (sc (ts.take q ++ [x]))) := ho
                    have HBd : Hid (Below W.heap.size W Wd) := HBWc.out.trans hb
                    clear ho hb hg
                    go_simp
                    clear hHeld
                    refine hK.out _ _ HBd.out (fun hHeld => ?_)
                    clear hK K
                    refine wpAnyH_ready (rs := [11]) (by kernel_rfl) (by simp) ?_
                    refine AllReadyH.cons (o := _) rfl (fun K hK => ?_) AllReadyH.nil
                    refine wp_strs _ _ rfl W.heap.size v2 (.slice (some ⟨g2, q, none⟩) (tl - q) (tc - q)) (ts.take q ++ [x]) (ts.drop q) Wd rfl rfl HOd.out HBd.out.size (HSR.out.2.below HBd.out) (by have := HMX.out; simp only [List.length_append, List.length_cons, List.length_nil]; omega) ?_
                    intro v3 We ho hb hg
                    have HOe : Hid (We.ownsRow W.heap.size 9 1 v3 (ts.take q ++ [x] ++ ts.drop q).length (sc (ts.take q ++ [x] ++ ts.drop q))) := ho
                    have HBe : Hid (Below W.heap.size W We) := HBd.out.trans hb
                    clear ho hb hg
                    go_simp
                    clear hHeld
                    refine hK.out _ _ HBe.out (fun hHeld => ?_)
                    clear hK K
                    refine' take_at (i := 12) (d := 3) (v := _) rfl rfl (by kernel_rfl) (by kernel_rfl) (by kernel_rfl) (fun _ _ _ h => h) (Or.inl ⟨by rfl, ?h12⟩) (by assumption) ?_
                    case h12 => intro w hSw; go_simp; with_reducible rfl
                    simp only [List.setIfInBounds_toArray, List.set_cons_zero, List.set_cons_succ]
                    refine wpAnyH_done (by kernel_rfl) ?_ _
                    clear hHeld
                    have HLE1 : Hid ((ts.take q ++ [x] ++ ts.drop q).length = tl + 1) := by
                      have h : (ts.take q ++ [x] ++ ts.drop q).length = tl + 1 := by have := HMX.out; simp only [List.length_append, List.length_cons, List.length_nil]; omega
                      exact h
                    go_wp2
                    go_roundw
                    case rel => exact ⟨k + 1, ts.take q ++ [x] ++ ts.drop q, by omega, by go_num, Tf.own HOe.out (by have := HLE1.out; omega), by have := HLE1.out; have := HTL.out; have := HTP.out.1; omega, HNEW.out, HBW.out.trans (HBe.out.mono HBW.out.size)⟩
                    case measure => simp [intOf]; omega
                  · go_simp
                    have HBWb : Hid (Below W.heap.size W (Wa.alloc (.cells #[.string x] 9))) := (HBWa.out).alloc (HBWa.out.size) _
                    have HSWb : Hid (Src (Wa.alloc (.cells #[.string x] 9)) (.slice (some ⟨Wa.heap.size, 0, none⟩) 1 1) [x]) := Src.one Wa x _
                    have HQWb : Hid (Wa.heap.size < (Wa.alloc (.cells #[.string x] 9)).heap.size) := by
                      have h : Wa.heap.size < (Wa.alloc (.cells #[.string x] 9)).heap.size := by simp
                      exact h
                    have HOWb : Hid ((Wa.alloc (.cells #[.string x] 9)).ownsRow W.heap.size 9 1 v0 ([] : List ByteArray).length (sc [])) := HOWa.out.alloc _
                    have HNE : Hid (q0 ≠ Wa.heap.size) := by
                      have h : q0 ≠ Wa.heap.size := by have := (HOWa.out.lt q0 HV0.out).2; omega
                      exact h
                    obtain ⟨qx, hqx⟩ : ∃ q0, q0 = Wa.heap.size := ⟨_, rfl⟩
                    rw [← hqx] at HSWb HQWb
                    rw [← hqx]
                    rw [← hqx] at HNE
                    clear hqx
                    clear hHeld
                    refine hK.out _ _ HBWb.out (fun hHeld => ?_)
                    clear hK K
                    generalize Wa.alloc (.cells #[.string x] 9) = Wb at *
                    refine wpAnyH_ready (rs := [4]) (by kernel_rfl) (by simp) ?_
                    refine AllReadyH.cons (o := _) rfl (fun K hK => ?_) AllReadyH.nil
                    refine wp_strs _ _ rfl W.heap.size v0 (.slice (some ⟨g2, 0, none⟩) q tc) [] (ts.take q) Wb rfl rfl HOWb.out HBWb.out.size (HSR.out.1.below HBWb.out) (by have := HMX.out; simp only [List.length_nil]; omega) ?_
                    intro v1 Wc ho hb hg
                    have HOWc : Hid (Wc.ownsRow W.heap.size 9 1 v1 (ts.take q).length (sc (ts.take q))) := ho
                    have HBWc : Hid (Below W.heap.size W Wc) := HBWb.out.trans hb
                    have HSWc : Hid (Src Wc (.slice (some ⟨qx, 0, none⟩) 1 1) [x]) := HSWb.out.grown hg (by rw [HV0.out]; intro e; exact HNE.out (Option.some.inj e))
                    clear ho hb hg
                    go_simp
                    clear hHeld
                    refine hK.out _ _ HBWc.out (fun hHeld => ?_)
                    clear hK K
                    refine wpAnyH_ready (rs := [7]) (by kernel_rfl) (by simp) ?_
                    refine AllReadyH.cons (o := _) rfl (fun K hK => ?_) AllReadyH.nil
                    refine wp_strs _ _ rfl W.heap.size v1 (.slice (some ⟨qx, 0, none⟩) 1 1) (ts.take q) [x] Wc rfl rfl HOWc.out HBWc.out.size HSWc.out (by have := HMX.out; simp only [List.length_cons, List.length_nil]; omega) ?_
                    intro v2 Wd ho hb hg
                    have HOd : Hid (Wd.ownsRow W.heap.size 9 1 v2 (ts.take q ++ [x]).length (sc (ts.take q ++ [x]))) := ho
                    have HBd : Hid (Below W.heap.size W Wd) := HBWc.out.trans hb
                    clear ho hb hg
                    go_simp
                    clear hHeld
                    refine hK.out _ _ HBd.out (fun hHeld => ?_)
                    clear hK K
                    refine wpAnyH_ready (rs := [11]) (by kernel_rfl) (by simp) ?_
                    refine AllReadyH.cons (o := _) rfl (fun K hK => ?_) AllReadyH.nil
                    refine wp_strs _ _ rfl W.heap.size v2 (.slice (some ⟨g2, q, none⟩) (tl - q) (tc - q)) (ts.take q ++ [x]) (ts.drop q) Wd rfl rfl HOd.out HBd.out.size (HSR.out.2.below HBd.out) (by have := HMX.out; simp only [List.length_append, List.length_cons, List.length_nil]; omega) ?_
                    intro v3 We ho hb hg
                    have HOe : Hid (We.ownsRow W.heap.size 9 1 v3 (ts.take q ++ [x] ++ ts.drop q).length (sc (ts.take q ++ [x] ++ ts.drop q))) := ho
                    have HBe : Hid (Below W.heap.size W We) := HBd.out.trans hb
                    clear ho hb hg
                    go_simp
                    clear hHeld
                    refine hK.out _ _ HBe.out (fun hHeld => ?_)
                    clear hK K
                    refine' take_at (i := 12) (d := 3) (v := _) rfl rfl (by kernel_rfl) (by kernel_rfl) (by kernel_rfl) (fun _ _ _ h => h) (Or.inl ⟨by rfl, ?h12⟩) (by assumption) ?_
                    case h12 => intro w hSw; go_simp; with_reducible rfl
                    simp only [List.setIfInBounds_toArray, List.set_cons_zero, List.set_cons_succ]
                    refine wpAnyH_done (by kernel_rfl) ?_ _
                    clear hHeld
                    have HLE1 : Hid ((ts.take q ++ [x] ++ ts.drop q).length = tl + 1) := by
                      have h : (ts.take q ++ [x] ++ ts.drop q).length = tl + 1 := by have := HMX.out; simp only [List.length_append, List.length_cons, List.length_nil]; omega
                      exact h
                    go_wp2
                    go_roundw
                    case rel => exact ⟨k + 1, ts.take q ++ [x] ++ ts.drop q, by omega, by go_num, Tf.own HOe.out (by have := HLE1.out; omega), by have := HLE1.out; have := HTL.out; have := HTP.out.1; omega, HNEW.out, HBW.out.trans (HBe.out.mono HBW.out.size)⟩
                    case measure => simp [intOf]; omega
                · go_simp
                  have HBWa : Hid (Below W.heap.size W (W.alloc (.cells #[.string x] 9))) := (Below.refl _ W).alloc (Nat.le_refl _) _
                  have HSWa : Hid (Src (W.alloc (.cells #[.string x] 9)) (.slice (some ⟨W.heap.size, 0, none⟩) 1 1) [x]) := Src.one W x _
                  have HQWa : Hid (W.heap.size < (W.alloc (.cells #[.string x] 9)).heap.size) := by
                    have h : W.heap.size < (W.alloc (.cells #[.string x] 9)).heap.size := by simp
                    exact h
                  obtain ⟨qx, hqx⟩ : ∃ q0, q0 = W.heap.size := ⟨_, rfl⟩
                  rw [← hqx] at HSWa HQWa
                  rw [← hqx]
                  clear hqx
                  clear hHeld
                  refine hK.out _ _ HBWa.out (fun hHeld => ?_)
                  clear hK K
                  generalize W.alloc (.cells #[.string x] 9) = Wa at *
                  refine wpAnyH_ready (rs := [0]) (by kernel_rfl) (by simp) ?_
                  refine AllReadyH.cons (o := _) rfl (fun K hK => ?_) AllReadyH.nil
                  go_simp
                  have HBWb : Hid (Below W.heap.size W (Wa.alloc (.cells #[] 9))) := (HBWa.out).alloc (HBWa.out.size) _
                  obtain ⟨q0, hq0⟩ : ∃ q0, q0 = Wa.heap.size := ⟨_, rfl⟩
                  obtain ⟨v0, hv0⟩ : ∃ v, v = Value.slice (some ⟨q0, 0, none⟩) 0 0 := ⟨_, rfl⟩
                  have HOWb : Hid ((Wa.alloc (.cells #[] 9)).ownsRow W.heap.size 9 1 v0 ([] : List ByteArray).length (sc [])) := by
                    rw [hv0, hq0]
                    exact World.ownsRow_made Wa #[] 0 (HBWa.out.size) (by decide) rfl
                  have HV0 : Hid (v0.ownBlock = some q0) := by
                    have h : v0.ownBlock = some q0 := by rw [hv0]; rfl
                    exact h
                  have HSWb : Hid (Src (Wa.alloc (.cells #[] 9)) (.slice (some ⟨qx, 0, none⟩) 1 1) [x]) := HSWa.out.below ((Below.refl _ Wa).alloc (Nat.le_refl _) _)
                  have HNE : Hid (q0 ≠ qx) := by
                    have h : q0 ≠ qx := by have := HQWa.out; omega
                    exact h
                  rw [← hq0, ← hv0]
                  clear hv0 hq0
                  clear hHeld
                  refine hK.out _ _ HBWb.out (fun hHeld => ?_)
                  clear hK K
                  generalize Wa.alloc (.cells #[] 9) = Wb at *
                  refine wpAnyH_ready (rs := [4]) (by kernel_rfl) (by simp) ?_
                  refine AllReadyH.cons (o := _) rfl (fun K hK => ?_) AllReadyH.nil
                  refine wp_strs _ _ rfl W.heap.size v0 (.slice (some ⟨g2, 0, none⟩) q tc) [] (ts.take q) Wb rfl rfl HOWb.out HBWb.out.size (HSR.out.1.below HBWb.out) (by have := HMX.out; simp only [List.length_nil]; omega) ?_
                  intro v1 Wc ho hb hg
                  have HOWc : Hid (Wc.ownsRow W.heap.size 9 1 v1 (ts.take q).length (sc (ts.take q))) := ho
                  have HBWc : Hid (Below W.heap.size W Wc) := HBWb.out.trans hb
                  have HSWc : Hid (Src Wc (.slice (some ⟨qx, 0, none⟩) 1 1) [x]) := HSWb.out.grown hg (by rw [HV0.out]; intro e; exact HNE.out (Option.some.inj e))
                  clear ho hb hg
                  go_simp
                  clear hHeld
                  refine hK.out _ _ HBWc.out (fun hHeld => ?_)
                  clear hK K
                  refine wpAnyH_ready (rs := [7]) (by kernel_rfl) (by simp) ?_
                  refine AllReadyH.cons (o := _) rfl (fun K hK => ?_) AllReadyH.nil
                  refine wp_strs _ _ rfl W.heap.size v1 (.slice (some ⟨qx, 0, none⟩) 1 1) (ts.take q) [x] Wc rfl rfl HOWc.out HBWc.out.size HSWc.out (by have := HMX.out; simp only [List.length_cons, List.length_nil]; omega) ?_
                  intro v2 Wd ho hb hg
                  have HOd : Hid (Wd.ownsRow W.heap.size 9 1 v2 (ts.take q ++ [x]).length (sc (ts.take q ++ [x]))) := ho
                  have HBd : Hid (Below W.heap.size W Wd) := HBWc.out.trans hb
                  clear ho hb hg
                  go_simp
                  clear hHeld
                  refine hK.out _ _ HBd.out (fun hHeld => ?_)
                  clear hK K
                  refine wpAnyH_ready (rs := [11]) (by kernel_rfl) (by simp) ?_
                  refine AllReadyH.cons (o := _) rfl (fun K hK => ?_) AllReadyH.nil
                  refine wp_strs _ _ rfl W.heap.size v2 (.slice (some ⟨g2, q, none⟩) (tl - q) (tc - q)) (ts.take q ++ [x]) (ts.drop q) Wd rfl rfl HOd.out HBd.out.size (HSR.out.2.below HBd.out) (by have := HMX.out; simp only [List.length_append, List.length_cons, List.length_nil]; omega) ?_
                  intro v3 We ho hb hg
                  have HOe : Hid (We.ownsRow W.heap.size 9 1 v3 (ts.take q ++ [x] ++ ts.drop q).length (sc (ts.take q ++ [x] ++ ts.drop q))) := ho
                  have HBe : Hid (Below W.heap.size W We) := HBd.out.trans hb
                  clear ho hb hg
                  go_simp
                  clear hHeld
                  refine hK.out _ _ HBe.out (fun hHeld => ?_)
                  clear hK K
                  refine' take_at (i := 12) (d := 3) (v := _) rfl rfl (by kernel_rfl) (by kernel_rfl) (by kernel_rfl) (fun _ _ _ h => h) (Or.inl ⟨by rfl, ?h12⟩) (by assumption) ?_
                  case h12 => intro w hSw; go_simp; with_reducible rfl
                  simp only [List.setIfInBounds_toArray, List.set_cons_zero, List.set_cons_succ]
                  refine wpAnyH_done (by kernel_rfl) ?_ _
                  clear hHeld
                  have HLE1 : Hid ((ts.take q ++ [x] ++ ts.drop q).length = tl + 1) := by
                    have h : (ts.take q ++ [x] ++ ts.drop q).length = tl + 1 := by have := HMX.out; simp only [List.length_append, List.length_cons, List.length_nil]; omega
                    exact h
                  go_wp2
                  go_roundw
                  case rel => exact ⟨k + 1, ts.take q ++ [x] ++ ts.drop q, by omega, by go_num, Tf.own HOe.out (by have := HLE1.out; omega), by have := HLE1.out; have := HTL.out; have := HTP.out.1; omega, HNEW.out, HBW.out.trans (HBe.out.mono HBW.out.size)⟩
                  case measure => simp [intOf]; omega
          · have hq1' : ¬ (q : Int) < (tl : Int) := by omega
            have hqe : q = tl := by omega
            rcases HTF2.out with ⟨h1, h2⟩ | ⟨g2, c2, h1, h0, hc, hcells⟩
            · simp only [Value.slice.injEq] at h1
              obtain ⟨rfl, rfl, rfl⟩ := h1
              subst hqe
              have HT0 : Hid (ts = []) := h2
              clear h2
              have HNEW : Hid (Ts.Tops (os.take (k + 1)) ((ts.take 0 ++ [x] ++ ts.drop 0).map (·.data.toList))) := by
                have h : Ts.Tops (os.take (k + 1)) ((ts.take 0 ++ [x] ++ ts.drop 0).map (·.data.toList)) := by
                  rw [take_more HK.out.1, List.map_append, List.map_append, List.map_take, List.map_drop, List.map_singleton, HX.out]
                  refine Ts.tops_new HTP.out.2 (by rw [List.length_map]; have := HTL.out; omega) (fun e => ?_) (fun j y hj hy => ?_) (fun y hy => ?_)
                  · rw [← HX.out] at e
                    have := HXE.out
                    rw [ByteArray.toList_eq, e] at this
                    cases this
                  · rw [List.getElem?_map] at hy
                    obtain ⟨z, hz, rfl⟩ := Option.map_eq_some_iff.1 hy
                    have := HLOW.out j z hj hz
                    rw [ByteArray.toList_eq, ByteArray.toList_eq, HX.out] at this
                    exact this
                  · rw [List.getElem?_map] at hy
                    obtain ⟨z, hz, rfl⟩ := Option.map_eq_some_iff.1 hy
                    have := (List.getElem?_eq_some_iff.1 hz).1
                    have := HTL.out
                    omega

                exact h
              go_wp2
              have HSR : Hid (Src wr.drew (.slice none 0 0) (ts.take 0) ∧ Src wr.drew (.slice none 0 0) (ts.drop 0)) := src_none HT0.out
              have HBW : Hid (Below w.heap.size w wr.drew) := HB2.out.drew
              have hmx : (ts.take 0).length + 1 + (ts.drop 0).length = 0 + 1 := by rw [List.length_take, List.length_drop]; have := HTL.out; omega
              have HMX : Hid ((ts.take 0).length + 1 + (ts.drop 0).length = 0 + 1) := hmx
              clear hmx
              obtain ⟨W, hW⟩ : ∃ W, W = wr.drew := ⟨_, rfl⟩
              rw [← hW] at HSR HBW
              refine wp_region_held_drew (S := (fun w' => Below W.heap.size W w')) (by kernel_rfl) (by rw [hW]; exact Below.refl _ _) (fun hHeld => ?_)
              rw [← hW]
              clear hW hHeld
              have hHeld : Below W.heap.size W W := Below.refl _ W
              refine' take_at (i := 1) (d := 50) (v := _) rfl rfl (by kernel_rfl) (by kernel_rfl) (by kernel_rfl) (fun _ _ _ h => h) (Or.inl ⟨by rfl, ?h1⟩) (by assumption) ?_
              case h1 => intro w hSw; go_simp; with_reducible rfl
              simp only [List.setIfInBounds_toArray, List.set_cons_zero, List.set_cons_succ]
              refine' take_at (i := 2) (d := 51) (v := _) rfl rfl (by kernel_rfl) (by kernel_rfl) (by kernel_rfl) (fun _ _ _ h => h) (Or.inl ⟨by rfl, ?h2⟩) (by assumption) ?_
              case h2 => intro w hSw; go_simp; with_reducible rfl
              simp only [List.setIfInBounds_toArray, List.set_cons_zero, List.set_cons_succ]
              refine' take_at (i := 3) (d := 52) (v := _) rfl rfl (by kernel_rfl) (by kernel_rfl) (by kernel_rfl) (fun _ _ _ h => h) (Or.inl ⟨by rfl, ?h3⟩) (by assumption) ?_
              case h3 => intro w hSw; go_simp; with_reducible rfl
              simp only [List.setIfInBounds_toArray, List.set_cons_zero, List.set_cons_succ]
              refine' take_at (i := 5) (d := 54) (v := _) rfl rfl (by kernel_rfl) (by kernel_rfl) (by kernel_rfl) (fun _ _ _ h => h) (Or.inl ⟨by rfl, ?h5⟩) (by assumption) ?_
              case h5 => intro w hSw; go_simp; with_reducible rfl
              simp only [List.setIfInBounds_toArray, List.set_cons_zero, List.set_cons_succ]
              refine' take_at (i := 8) (d := 57) (v := _) rfl rfl (by kernel_rfl) (by kernel_rfl) (by kernel_rfl) (fun _ _ _ h => h) (Or.inl ⟨by rfl, ?h8⟩) (by assumption) ?_
              case h8 => intro w hSw; go_simp; with_reducible rfl
              simp only [List.setIfInBounds_toArray, List.set_cons_zero, List.set_cons_succ]
              refine' take_at (i := 9) (d := 58) (v := _) rfl rfl (by kernel_rfl) (by kernel_rfl) (by kernel_rfl) (fun _ _ _ h => h) (Or.inl ⟨by rfl, ?h9⟩) (by assumption) ?_
              case h9 => intro w hSw; go_simp; with_reducible rfl
              simp only [List.setIfInBounds_toArray, List.set_cons_zero, List.set_cons_succ]
              refine' take_at (i := 10) (d := 59) (v := (.slice none 0 0)) rfl rfl (by kernel_rfl) (by kernel_rfl) (by kernel_rfl) (fun _ _ _ h => h) (Or.inl ⟨by rfl, ?h10⟩) (by assumption) ?_
              case h10 => intro w hSw; go_simp; (try (first | with_reducible rfl | (intro e; omega)))
              simp only [List.setIfInBounds_toArray, List.set_cons_zero, List.set_cons_succ]
              refine wpAnyH_ready (rs := [0, 6]) (by kernel_rfl) (by simp) ?_
              refine AllReadyH.cons (o := _) rfl (fun K hK => ?_) (AllReadyH.cons (o := _) rfl (fun K hK => ?_) AllReadyH.nil)
              · go_simp
                have HBWa : Hid (Below W.heap.size W (W.alloc (.cells #[] 9))) := (Below.refl _ W).alloc (Nat.le_refl _) _
                obtain ⟨q0, hq0⟩ : ∃ q0, q0 = W.heap.size := ⟨_, rfl⟩
                obtain ⟨v0, hv0⟩ : ∃ v, v = Value.slice (some ⟨q0, 0, none⟩) 0 0 := ⟨_, rfl⟩
                have HOWa : Hid ((W.alloc (.cells #[] 9)).ownsRow W.heap.size 9 1 v0 ([] : List ByteArray).length (sc [])) := by
                  rw [hv0, hq0]
                  exact World.ownsRow_made W #[] 0 (Nat.le_refl _) (by decide) rfl
                have HV0 : Hid (v0.ownBlock = some q0) := by
                  have h : v0.ownBlock = some q0 := by rw [hv0]; rfl
                  exact h
                rw [← hq0, ← hv0]
                clear hv0 hq0
                clear hHeld
                refine hK.out _ _ HBWa.out (fun hHeld => ?_)
                clear hK K
                generalize W.alloc (.cells #[] 9) = Wa at *
                refine wpAnyH_ready (rs := [4, 6]) (by kernel_rfl) (by simp) ?_
                refine AllReadyH.cons (o := _) rfl (fun K hK => ?_) (AllReadyH.cons (o := _) rfl (fun K hK => ?_) AllReadyH.nil)
                · refine wp_strs _ _ rfl W.heap.size v0 (.slice none 0 0) [] (ts.take 0) Wa rfl rfl HOWa.out HBWa.out.size (HSR.out.1.below HBWa.out) (by have := HMX.out; simp only [List.length_nil]; omega) ?_
                  intro v1 Wb ho hb hg
                  have HOWb : Hid (Wb.ownsRow W.heap.size 9 1 v1 (ts.take 0).length (sc (ts.take 0))) := ho
                  have HBWb : Hid (Below W.heap.size W Wb) := HBWa.out.trans hb
                  clear ho hb hg
                  go_simp
                  clear hHeld
                  refine hK.out _ _ HBWb.out (fun hHeld => ?_)
                  clear hK K
                  refine wpAnyH_ready (rs := [6]) (by kernel_rfl) (by simp) ?_
                  refine AllReadyH.cons (o := _) rfl (fun K hK => ?_) AllReadyH.nil
                  go_simp
                  have HBWc : Hid (Below W.heap.size W (Wb.alloc (.cells #[.string x] 9))) := (HBWb.out).alloc (HBWb.out.size) _
                  have HSWc : Hid (Src (Wb.alloc (.cells #[.string x] 9)) (.slice (some ⟨Wb.heap.size, 0, none⟩) 1 1) [x]) := Src.one Wb x _
                  have HQWc : Hid (Wb.heap.size < (Wb.alloc (.cells #[.string x] 9)).heap.size) := by
                    have h : Wb.heap.size < (Wb.alloc (.cells #[.string x] 9)).heap.size := by simp
                    exact h
                  have HOWc : Hid ((Wb.alloc (.cells #[.string x] 9)).ownsRow W.heap.size 9 1 v1 ((ts.take 0) : List ByteArray).length (sc (ts.take 0))) := HOWb.out.alloc _
                  obtain ⟨qx, hqx⟩ : ∃ q0, q0 = Wb.heap.size := ⟨_, rfl⟩
                  rw [← hqx] at HSWc HQWc
                  rw [← hqx]
                  clear hqx
                  clear hHeld
                  refine hK.out _ _ HBWc.out (fun hHeld => ?_)
                  clear hK K
                  generalize Wb.alloc (.cells #[.string x] 9) = Wc at *
                  refine wpAnyH_ready (rs := [7]) (by kernel_rfl) (by simp) ?_
                  refine AllReadyH.cons (o := _) rfl (fun K hK => ?_) AllReadyH.nil
                  refine wp_strs _ _ rfl W.heap.size v1 (.slice (some ⟨qx, 0, none⟩) 1 1) (ts.take 0) [x] Wc rfl rfl HOWc.out HBWc.out.size HSWc.out (by have := HMX.out; simp only [List.length_cons, List.length_nil]; omega) ?_
                  intro v2 Wd ho hb hg
                  have HOd : Hid (Wd.ownsRow W.heap.size 9 1 v2 (ts.take 0 ++ [x]).length (sc (ts.take 0 ++ [x]))) := ho
                  have HBd : Hid (Below W.heap.size W Wd) := HBWc.out.trans hb
                  clear ho hb hg
                  go_simp
                  clear hHeld
                  refine hK.out _ _ HBd.out (fun hHeld => ?_)
                  clear hK K
                  refine wpAnyH_ready (rs := [11]) (by kernel_rfl) (by simp) ?_
                  refine AllReadyH.cons (o := _) rfl (fun K hK => ?_) AllReadyH.nil
                  refine wp_strs _ _ rfl W.heap.size v2 (.slice none 0 0) (ts.take 0 ++ [x]) (ts.drop 0) Wd rfl rfl HOd.out HBd.out.size (HSR.out.2.below HBd.out) (by have := HMX.out; simp only [List.length_append, List.length_cons, List.length_nil]; omega) ?_
                  intro v3 We ho hb hg
                  have HOe : Hid (We.ownsRow W.heap.size 9 1 v3 (ts.take 0 ++ [x] ++ ts.drop 0).length (sc (ts.take 0 ++ [x] ++ ts.drop 0))) := ho
                  have HBe : Hid (Below W.heap.size W We) := HBd.out.trans hb
                  clear ho hb hg
                  go_simp
                  clear hHeld
                  refine hK.out _ _ HBe.out (fun hHeld => ?_)
                  clear hK K
                  refine' take_at (i := 12) (d := 3) (v := _) rfl rfl (by kernel_rfl) (by kernel_rfl) (by kernel_rfl) (fun _ _ _ h => h) (Or.inl ⟨by rfl, ?h12⟩) (by assumption) ?_
                  case h12 => intro w hSw; go_simp; with_reducible rfl
                  simp only [List.setIfInBounds_toArray, List.set_cons_zero, List.set_cons_succ]
                  refine wpAnyH_done (by kernel_rfl) ?_ _
                  clear hHeld
                  have HLE1 : Hid ((ts.take 0 ++ [x] ++ ts.drop 0).length = 0 + 1) := by
                    have h : (ts.take 0 ++ [x] ++ ts.drop 0).length = 0 + 1 := by have := HMX.out; simp only [List.length_append, List.length_cons, List.length_nil]; omega
                    exact h
                  go_wp2
                  go_roundw
                  case rel => exact ⟨k + 1, ts.take 0 ++ [x] ++ ts.drop 0, by omega, by go_num, Tf.own HOe.out (by have := HLE1.out; omega), by have := HLE1.out; have := HTL.out; have := HTP.out.1; omega, HNEW.out, HBW.out.trans (HBe.out.mono HBW.out.size)⟩
                  case measure => simp [intOf]; omega
                · go_simp
                  have HBWb : Hid (Below W.heap.size W (Wa.alloc (.cells #[.string x] 9))) := (HBWa.out).alloc (HBWa.out.size) _
                  have HSWb : Hid (Src (Wa.alloc (.cells #[.string x] 9)) (.slice (some ⟨Wa.heap.size, 0, none⟩) 1 1) [x]) := Src.one Wa x _
                  have HQWb : Hid (Wa.heap.size < (Wa.alloc (.cells #[.string x] 9)).heap.size) := by
                    have h : Wa.heap.size < (Wa.alloc (.cells #[.string x] 9)).heap.size := by simp
                    exact h
                  have HOWb : Hid ((Wa.alloc (.cells #[.string x] 9)).ownsRow W.heap.size 9 1 v0 ([] : List ByteArray).length (sc [])) := HOWa.out.alloc _
                  have HNE : Hid (q0 ≠ Wa.heap.size) := by
                    have h : q0 ≠ Wa.heap.size := by have := (HOWa.out.lt q0 HV0.out).2; omega
                    exact h
                  obtain ⟨qx, hqx⟩ : ∃ q0, q0 = Wa.heap.size := ⟨_, rfl⟩
                  rw [← hqx] at HSWb HQWb
                  rw [← hqx]
                  rw [← hqx] at HNE
                  clear hqx
                  clear hHeld
                  refine hK.out _ _ HBWb.out (fun hHeld => ?_)
                  clear hK K
                  generalize Wa.alloc (.cells #[.string x] 9) = Wb at *
                  refine wpAnyH_ready (rs := [4]) (by kernel_rfl) (by simp) ?_
                  refine AllReadyH.cons (o := _) rfl (fun K hK => ?_) AllReadyH.nil
                  refine wp_strs _ _ rfl W.heap.size v0 (.slice none 0 0) [] (ts.take 0) Wb rfl rfl HOWb.out HBWb.out.size (HSR.out.1.below HBWb.out) (by have := HMX.out; simp only [List.length_nil]; omega) ?_
                  intro v1 Wc ho hb hg
                  have HOWc : Hid (Wc.ownsRow W.heap.size 9 1 v1 (ts.take 0).length (sc (ts.take 0))) := ho
                  have HBWc : Hid (Below W.heap.size W Wc) := HBWb.out.trans hb
                  have HSWc : Hid (Src Wc (.slice (some ⟨qx, 0, none⟩) 1 1) [x]) := HSWb.out.grown hg (by rw [HV0.out]; intro e; exact HNE.out (Option.some.inj e))
                  clear ho hb hg
                  go_simp
                  clear hHeld
                  refine hK.out _ _ HBWc.out (fun hHeld => ?_)
                  clear hK K
                  refine wpAnyH_ready (rs := [7]) (by kernel_rfl) (by simp) ?_
                  refine AllReadyH.cons (o := _) rfl (fun K hK => ?_) AllReadyH.nil
                  refine wp_strs _ _ rfl W.heap.size v1 (.slice (some ⟨qx, 0, none⟩) 1 1) (ts.take 0) [x] Wc rfl rfl HOWc.out HBWc.out.size HSWc.out (by have := HMX.out; simp only [List.length_cons, List.length_nil]; omega) ?_
                  intro v2 Wd ho hb hg
                  have HOd : Hid (Wd.ownsRow W.heap.size 9 1 v2 (ts.take 0 ++ [x]).length (sc (ts.take 0 ++ [x]))) := ho
                  have HBd : Hid (Below W.heap.size W Wd) := HBWc.out.trans hb
                  clear ho hb hg
                  go_simp
                  clear hHeld
                  refine hK.out _ _ HBd.out (fun hHeld => ?_)
                  clear hK K
                  refine wpAnyH_ready (rs := [11]) (by kernel_rfl) (by simp) ?_
                  refine AllReadyH.cons (o := _) rfl (fun K hK => ?_) AllReadyH.nil
                  refine wp_strs _ _ rfl W.heap.size v2 (.slice none 0 0) (ts.take 0 ++ [x]) (ts.drop 0) Wd rfl rfl HOd.out HBd.out.size (HSR.out.2.below HBd.out) (by have := HMX.out; simp only [List.length_append, List.length_cons, List.length_nil]; omega) ?_
                  intro v3 We ho hb hg
                  have HOe : Hid (We.ownsRow W.heap.size 9 1 v3 (ts.take 0 ++ [x] ++ ts.drop 0).length (sc (ts.take 0 ++ [x] ++ ts.drop 0))) := ho
                  have HBe : Hid (Below W.heap.size W We) := HBd.out.trans hb
                  clear ho hb hg
                  go_simp
                  clear hHeld
                  refine hK.out _ _ HBe.out (fun hHeld => ?_)
                  clear hK K
                  refine' take_at (i := 12) (d := 3) (v := _) rfl rfl (by kernel_rfl) (by kernel_rfl) (by kernel_rfl) (fun _ _ _ h => h) (Or.inl ⟨by rfl, ?h12⟩) (by assumption) ?_
                  case h12 => intro w hSw; go_simp; with_reducible rfl
                  simp only [List.setIfInBounds_toArray, List.set_cons_zero, List.set_cons_succ]
                  refine wpAnyH_done (by kernel_rfl) ?_ _
                  clear hHeld
                  have HLE1 : Hid ((ts.take 0 ++ [x] ++ ts.drop 0).length = 0 + 1) := by
                    have h : (ts.take 0 ++ [x] ++ ts.drop 0).length = 0 + 1 := by have := HMX.out; simp only [List.length_append, List.length_cons, List.length_nil]; omega
                    exact h
                  go_wp2
                  go_roundw
                  case rel => exact ⟨k + 1, ts.take 0 ++ [x] ++ ts.drop 0, by omega, by go_num, Tf.own HOe.out (by have := HLE1.out; omega), by have := HLE1.out; have := HTL.out; have := HTP.out.1; omega, HNEW.out, HBW.out.trans (HBe.out.mono HBW.out.size)⟩
                  case measure => simp [intOf]; omega
              · go_simp
                have HBWa : Hid (Below W.heap.size W (W.alloc (.cells #[.string x] 9))) := (Below.refl _ W).alloc (Nat.le_refl _) _
                have HSWa : Hid (Src (W.alloc (.cells #[.string x] 9)) (.slice (some ⟨W.heap.size, 0, none⟩) 1 1) [x]) := Src.one W x _
                have HQWa : Hid (W.heap.size < (W.alloc (.cells #[.string x] 9)).heap.size) := by
                  have h : W.heap.size < (W.alloc (.cells #[.string x] 9)).heap.size := by simp
                  exact h
                obtain ⟨qx, hqx⟩ : ∃ q0, q0 = W.heap.size := ⟨_, rfl⟩
                rw [← hqx] at HSWa HQWa
                rw [← hqx]
                clear hqx
                clear hHeld
                refine hK.out _ _ HBWa.out (fun hHeld => ?_)
                clear hK K
                generalize W.alloc (.cells #[.string x] 9) = Wa at *
                refine wpAnyH_ready (rs := [0]) (by kernel_rfl) (by simp) ?_
                refine AllReadyH.cons (o := _) rfl (fun K hK => ?_) AllReadyH.nil
                go_simp
                have HBWb : Hid (Below W.heap.size W (Wa.alloc (.cells #[] 9))) := (HBWa.out).alloc (HBWa.out.size) _
                obtain ⟨q0, hq0⟩ : ∃ q0, q0 = Wa.heap.size := ⟨_, rfl⟩
                obtain ⟨v0, hv0⟩ : ∃ v, v = Value.slice (some ⟨q0, 0, none⟩) 0 0 := ⟨_, rfl⟩
                have HOWb : Hid ((Wa.alloc (.cells #[] 9)).ownsRow W.heap.size 9 1 v0 ([] : List ByteArray).length (sc [])) := by
                  rw [hv0, hq0]
                  exact World.ownsRow_made Wa #[] 0 (HBWa.out.size) (by decide) rfl
                have HV0 : Hid (v0.ownBlock = some q0) := by
                  have h : v0.ownBlock = some q0 := by rw [hv0]; rfl
                  exact h
                have HSWb : Hid (Src (Wa.alloc (.cells #[] 9)) (.slice (some ⟨qx, 0, none⟩) 1 1) [x]) := HSWa.out.below ((Below.refl _ Wa).alloc (Nat.le_refl _) _)
                have HNE : Hid (q0 ≠ qx) := by
                  have h : q0 ≠ qx := by have := HQWa.out; omega
                  exact h
                rw [← hq0, ← hv0]
                clear hv0 hq0
                clear hHeld
                refine hK.out _ _ HBWb.out (fun hHeld => ?_)
                clear hK K
                generalize Wa.alloc (.cells #[] 9) = Wb at *
                refine wpAnyH_ready (rs := [4]) (by kernel_rfl) (by simp) ?_
                refine AllReadyH.cons (o := _) rfl (fun K hK => ?_) AllReadyH.nil
                refine wp_strs _ _ rfl W.heap.size v0 (.slice none 0 0) [] (ts.take 0) Wb rfl rfl HOWb.out HBWb.out.size (HSR.out.1.below HBWb.out) (by have := HMX.out; simp only [List.length_nil]; omega) ?_
                intro v1 Wc ho hb hg
                have HOWc : Hid (Wc.ownsRow W.heap.size 9 1 v1 (ts.take 0).length (sc (ts.take 0))) := ho
                have HBWc : Hid (Below W.heap.size W Wc) := HBWb.out.trans hb
                have HSWc : Hid (Src Wc (.slice (some ⟨qx, 0, none⟩) 1 1) [x]) := HSWb.out.grown hg (by rw [HV0.out]; intro e; exact HNE.out (Option.some.inj e))
                clear ho hb hg
                go_simp
                clear hHeld
                refine hK.out _ _ HBWc.out (fun hHeld => ?_)
                clear hK K
                refine wpAnyH_ready (rs := [7]) (by kernel_rfl) (by simp) ?_
                refine AllReadyH.cons (o := _) rfl (fun K hK => ?_) AllReadyH.nil
                refine wp_strs _ _ rfl W.heap.size v1 (.slice (some ⟨qx, 0, none⟩) 1 1) (ts.take 0) [x] Wc rfl rfl HOWc.out HBWc.out.size HSWc.out (by have := HMX.out; simp only [List.length_cons, List.length_nil]; omega) ?_
                intro v2 Wd ho hb hg
                have HOd : Hid (Wd.ownsRow W.heap.size 9 1 v2 (ts.take 0 ++ [x]).length (sc (ts.take 0 ++ [x]))) := ho
                have HBd : Hid (Below W.heap.size W Wd) := HBWc.out.trans hb
                clear ho hb hg
                go_simp
                clear hHeld
                refine hK.out _ _ HBd.out (fun hHeld => ?_)
                clear hK K
                refine wpAnyH_ready (rs := [11]) (by kernel_rfl) (by simp) ?_
                refine AllReadyH.cons (o := _) rfl (fun K hK => ?_) AllReadyH.nil
                refine wp_strs _ _ rfl W.heap.size v2 (.slice none 0 0) (ts.take 0 ++ [x]) (ts.drop 0) Wd rfl rfl HOd.out HBd.out.size (HSR.out.2.below HBd.out) (by have := HMX.out; simp only [List.length_append, List.length_cons, List.length_nil]; omega) ?_
                intro v3 We ho hb hg
                have HOe : Hid (We.ownsRow W.heap.size 9 1 v3 (ts.take 0 ++ [x] ++ ts.drop 0).length (sc (ts.take 0 ++ [x] ++ ts.drop 0))) := ho
                have HBe : Hid (Below W.heap.size W We) := HBd.out.trans hb
                clear ho hb hg
                go_simp
                clear hHeld
                refine hK.out _ _ HBe.out (fun hHeld => ?_)
                clear hK K
                refine' take_at (i := 12) (d := 3) (v := _) rfl rfl (by kernel_rfl) (by kernel_rfl) (by kernel_rfl) (fun _ _ _ h => h) (Or.inl ⟨by rfl, ?h12⟩) (by assumption) ?_
                case h12 => intro w hSw; go_simp; with_reducible rfl
                simp only [List.setIfInBounds_toArray, List.set_cons_zero, List.set_cons_succ]
                refine wpAnyH_done (by kernel_rfl) ?_ _
                clear hHeld
                have HLE1 : Hid ((ts.take 0 ++ [x] ++ ts.drop 0).length = 0 + 1) := by
                  have h : (ts.take 0 ++ [x] ++ ts.drop 0).length = 0 + 1 := by have := HMX.out; simp only [List.length_append, List.length_cons, List.length_nil]; omega
                  exact h
                go_wp2
                go_roundw
                case rel => exact ⟨k + 1, ts.take 0 ++ [x] ++ ts.drop 0, by omega, by go_num, Tf.own HOe.out (by have := HLE1.out; omega), by have := HLE1.out; have := HTL.out; have := HTP.out.1; omega, HNEW.out, HBW.out.trans (HBe.out.mono HBW.out.size)⟩
                case measure => simp [intOf]; omega
            · simp only [Value.slice.injEq] at h1
              obtain ⟨rfl, h3, rfl⟩ := h1
              have HCL : Hid (∀ (j : Nat) s, ts[j]? = some s → wr.cell? ⟨g2, j, none⟩ = some (.string s)) := hcells
              have htc : tl ≤ tc := by omega
              clear hcells h0 hc h3
              subst hqe
              by_cases hqn : tc = q
              · subst hqn
                have HNEW : Hid (Ts.Tops (os.take (k + 1)) ((ts.take tc ++ [x] ++ ts.drop tc).map (·.data.toList))) := by
                  have h : Ts.Tops (os.take (k + 1)) ((ts.take tc ++ [x] ++ ts.drop tc).map (·.data.toList)) := by
                    rw [take_more HK.out.1, List.map_append, List.map_append, List.map_take, List.map_drop, List.map_singleton, HX.out]
                    refine Ts.tops_new HTP.out.2 (by rw [List.length_map]; have := HTL.out; omega) (fun e => ?_) (fun j y hj hy => ?_) (fun y hy => ?_)
                    · rw [← HX.out] at e
                      have := HXE.out
                      rw [ByteArray.toList_eq, e] at this
                      cases this
                    · rw [List.getElem?_map] at hy
                      obtain ⟨z, hz, rfl⟩ := Option.map_eq_some_iff.1 hy
                      have := HLOW.out j z hj hz
                      rw [ByteArray.toList_eq, ByteArray.toList_eq, HX.out] at this
                      exact this
                    · rw [List.getElem?_map] at hy
                      obtain ⟨z, hz, rfl⟩ := Option.map_eq_some_iff.1 hy
                      have := (List.getElem?_eq_some_iff.1 hz).1
                      have := HTL.out
                      omega

                  exact h
                go_wp2
                have HSR : Hid (Src wr.drew (.slice (some ⟨g2, 0, none⟩) tc tc) (ts.take tc) ∧ Src wr.drew (.slice (some ⟨g2, 0, none⟩) 0 0) (ts.drop tc)) := src_end HTL.out HCL.out
                have HBW : Hid (Below w.heap.size w wr.drew) := HB2.out.drew
                have hmx : (ts.take tc).length + 1 + (ts.drop tc).length = tc + 1 := by rw [List.length_take, List.length_drop]; have := HTL.out; omega
                have HMX : Hid ((ts.take tc).length + 1 + (ts.drop tc).length = tc + 1) := hmx
                clear hmx
                obtain ⟨W, hW⟩ : ∃ W, W = wr.drew := ⟨_, rfl⟩
                rw [← hW] at HSR HBW
                refine wp_region_held_drew (S := (fun w' => Below W.heap.size W w')) (by kernel_rfl) (by rw [hW]; exact Below.refl _ _) (fun hHeld => ?_)
                rw [← hW]
                clear hW hHeld
                have hHeld : Below W.heap.size W W := Below.refl _ W
                refine' take_at (i := 1) (d := 50) (v := _) rfl rfl (by kernel_rfl) (by kernel_rfl) (by kernel_rfl) (fun _ _ _ h => h) (Or.inl ⟨by rfl, ?h1⟩) (by assumption) ?_
                case h1 => intro w hSw; go_simp; with_reducible rfl
                simp only [List.setIfInBounds_toArray, List.set_cons_zero, List.set_cons_succ]
                refine' take_at (i := 2) (d := 51) (v := _) rfl rfl (by kernel_rfl) (by kernel_rfl) (by kernel_rfl) (fun _ _ _ h => h) (Or.inl ⟨by rfl, ?h2⟩) (by assumption) ?_
                case h2 => intro w hSw; go_simp; with_reducible rfl
                simp only [List.setIfInBounds_toArray, List.set_cons_zero, List.set_cons_succ]
                refine' take_at (i := 3) (d := 52) (v := _) rfl rfl (by kernel_rfl) (by kernel_rfl) (by kernel_rfl) (fun _ _ _ h => h) (Or.inl ⟨by rfl, ?h3⟩) (by assumption) ?_
                case h3 => intro w hSw; go_simp; with_reducible rfl
                simp only [List.setIfInBounds_toArray, List.set_cons_zero, List.set_cons_succ]
                refine' take_at (i := 5) (d := 54) (v := _) rfl rfl (by kernel_rfl) (by kernel_rfl) (by kernel_rfl) (fun _ _ _ h => h) (Or.inl ⟨by rfl, ?h5⟩) (by assumption) ?_
                case h5 => intro w hSw; go_simp; with_reducible rfl
                simp only [List.setIfInBounds_toArray, List.set_cons_zero, List.set_cons_succ]
                refine' take_at (i := 8) (d := 57) (v := _) rfl rfl (by kernel_rfl) (by kernel_rfl) (by kernel_rfl) (fun _ _ _ h => h) (Or.inl ⟨by rfl, ?h8⟩) (by assumption) ?_
                case h8 => intro w hSw; go_simp; with_reducible rfl
                simp only [List.setIfInBounds_toArray, List.set_cons_zero, List.set_cons_succ]
                refine' take_at (i := 9) (d := 58) (v := _) rfl rfl (by kernel_rfl) (by kernel_rfl) (by kernel_rfl) (fun _ _ _ h => h) (Or.inl ⟨by rfl, ?h9⟩) (by assumption) ?_
                case h9 => intro w hSw; go_simp; with_reducible rfl
                simp only [List.setIfInBounds_toArray, List.set_cons_zero, List.set_cons_succ]
                refine' take_at (i := 10) (d := 59) (v := (.slice (some ⟨g2, 0, none⟩) 0 0)) rfl rfl (by kernel_rfl) (by kernel_rfl) (by kernel_rfl) (fun _ _ _ h => h) (Or.inl ⟨by rfl, ?h10⟩) (by assumption) ?_
                case h10 => intro w hSw; go_simp; (try (first | with_reducible rfl | (intro e; omega)))
                simp only [List.setIfInBounds_toArray, List.set_cons_zero, List.set_cons_succ]
                refine wpAnyH_ready (rs := [0, 6]) (by kernel_rfl) (by simp) ?_
                refine AllReadyH.cons (o := _) rfl (fun K hK => ?_) (AllReadyH.cons (o := _) rfl (fun K hK => ?_) AllReadyH.nil)
                · go_simp
                  have HBWa : Hid (Below W.heap.size W (W.alloc (.cells #[] 9))) := (Below.refl _ W).alloc (Nat.le_refl _) _
                  obtain ⟨q0, hq0⟩ : ∃ q0, q0 = W.heap.size := ⟨_, rfl⟩
                  obtain ⟨v0, hv0⟩ : ∃ v, v = Value.slice (some ⟨q0, 0, none⟩) 0 0 := ⟨_, rfl⟩
                  have HOWa : Hid ((W.alloc (.cells #[] 9)).ownsRow W.heap.size 9 1 v0 ([] : List ByteArray).length (sc [])) := by
                    rw [hv0, hq0]
                    exact World.ownsRow_made W #[] 0 (Nat.le_refl _) (by decide) rfl
                  have HV0 : Hid (v0.ownBlock = some q0) := by
                    have h : v0.ownBlock = some q0 := by rw [hv0]; rfl
                    exact h
                  rw [← hq0, ← hv0]
                  clear hv0 hq0
                  clear hHeld
                  refine hK.out _ _ HBWa.out (fun hHeld => ?_)
                  clear hK K
                  generalize W.alloc (.cells #[] 9) = Wa at *
                  refine wpAnyH_ready (rs := [4, 6]) (by kernel_rfl) (by simp) ?_
                  refine AllReadyH.cons (o := _) rfl (fun K hK => ?_) (AllReadyH.cons (o := _) rfl (fun K hK => ?_) AllReadyH.nil)
                  · refine wp_strs _ _ rfl W.heap.size v0 (.slice (some ⟨g2, 0, none⟩) tc tc) [] (ts.take tc) Wa rfl rfl HOWa.out HBWa.out.size (HSR.out.1.below HBWa.out) (by have := HMX.out; simp only [List.length_nil]; omega) ?_
                    intro v1 Wb ho hb hg
                    have HOWb : Hid (Wb.ownsRow W.heap.size 9 1 v1 (ts.take tc).length (sc (ts.take tc))) := ho
                    have HBWb : Hid (Below W.heap.size W Wb) := HBWa.out.trans hb
                    clear ho hb hg
                    go_simp
                    clear hHeld
                    refine hK.out _ _ HBWb.out (fun hHeld => ?_)
                    clear hK K
                    refine wpAnyH_ready (rs := [6]) (by kernel_rfl) (by simp) ?_
                    refine AllReadyH.cons (o := _) rfl (fun K hK => ?_) AllReadyH.nil
                    go_simp
                    have HBWc : Hid (Below W.heap.size W (Wb.alloc (.cells #[.string x] 9))) := (HBWb.out).alloc (HBWb.out.size) _
                    have HSWc : Hid (Src (Wb.alloc (.cells #[.string x] 9)) (.slice (some ⟨Wb.heap.size, 0, none⟩) 1 1) [x]) := Src.one Wb x _
                    have HQWc : Hid (Wb.heap.size < (Wb.alloc (.cells #[.string x] 9)).heap.size) := by
                      have h : Wb.heap.size < (Wb.alloc (.cells #[.string x] 9)).heap.size := by simp
                      exact h
                    have HOWc : Hid ((Wb.alloc (.cells #[.string x] 9)).ownsRow W.heap.size 9 1 v1 ((ts.take tc) : List ByteArray).length (sc (ts.take tc))) := HOWb.out.alloc _
                    obtain ⟨qx, hqx⟩ : ∃ q0, q0 = Wb.heap.size := ⟨_, rfl⟩
                    rw [← hqx] at HSWc HQWc
                    rw [← hqx]
                    clear hqx
                    clear hHeld
                    refine hK.out _ _ HBWc.out (fun hHeld => ?_)
                    clear hK K
                    generalize Wb.alloc (.cells #[.string x] 9) = Wc at *
                    refine wpAnyH_ready (rs := [7]) (by kernel_rfl) (by simp) ?_
                    refine AllReadyH.cons (o := _) rfl (fun K hK => ?_) AllReadyH.nil
                    refine wp_strs _ _ rfl W.heap.size v1 (.slice (some ⟨qx, 0, none⟩) 1 1) (ts.take tc) [x] Wc rfl rfl HOWc.out HBWc.out.size HSWc.out (by have := HMX.out; simp only [List.length_cons, List.length_nil]; omega) ?_
                    intro v2 Wd ho hb hg
                    have HOd : Hid (Wd.ownsRow W.heap.size 9 1 v2 (ts.take tc ++ [x]).length (sc (ts.take tc ++ [x]))) := ho
                    have HBd : Hid (Below W.heap.size W Wd) := HBWc.out.trans hb
                    clear ho hb hg
                    go_simp
                    clear hHeld
                    refine hK.out _ _ HBd.out (fun hHeld => ?_)
                    clear hK K
                    refine wpAnyH_ready (rs := [11]) (by kernel_rfl) (by simp) ?_
                    refine AllReadyH.cons (o := _) rfl (fun K hK => ?_) AllReadyH.nil
                    refine wp_strs _ _ rfl W.heap.size v2 (.slice (some ⟨g2, 0, none⟩) 0 0) (ts.take tc ++ [x]) (ts.drop tc) Wd rfl rfl HOd.out HBd.out.size (HSR.out.2.below HBd.out) (by have := HMX.out; simp only [List.length_append, List.length_cons, List.length_nil]; omega) ?_
                    intro v3 We ho hb hg
                    have HOe : Hid (We.ownsRow W.heap.size 9 1 v3 (ts.take tc ++ [x] ++ ts.drop tc).length (sc (ts.take tc ++ [x] ++ ts.drop tc))) := ho
                    have HBe : Hid (Below W.heap.size W We) := HBd.out.trans hb
                    clear ho hb hg
                    go_simp
                    clear hHeld
                    refine hK.out _ _ HBe.out (fun hHeld => ?_)
                    clear hK K
                    refine' take_at (i := 12) (d := 3) (v := _) rfl rfl (by kernel_rfl) (by kernel_rfl) (by kernel_rfl) (fun _ _ _ h => h) (Or.inl ⟨by rfl, ?h12⟩) (by assumption) ?_
                    case h12 => intro w hSw; go_simp; with_reducible rfl
                    simp only [List.setIfInBounds_toArray, List.set_cons_zero, List.set_cons_succ]
                    refine wpAnyH_done (by kernel_rfl) ?_ _
                    clear hHeld
                    have HLE1 : Hid ((ts.take tc ++ [x] ++ ts.drop tc).length = tc + 1) := by
                      have h : (ts.take tc ++ [x] ++ ts.drop tc).length = tc + 1 := by have := HMX.out; simp only [List.length_append, List.length_cons, List.length_nil]; omega
                      exact h
                    go_wp2
                    go_roundw
                    case rel => exact ⟨k + 1, ts.take tc ++ [x] ++ ts.drop tc, by omega, by go_num, Tf.own HOe.out (by have := HLE1.out; omega), by have := HLE1.out; have := HTL.out; have := HTP.out.1; omega, HNEW.out, HBW.out.trans (HBe.out.mono HBW.out.size)⟩
                    case measure => simp [intOf]; omega
                  · go_simp
                    have HBWb : Hid (Below W.heap.size W (Wa.alloc (.cells #[.string x] 9))) := (HBWa.out).alloc (HBWa.out.size) _
                    have HSWb : Hid (Src (Wa.alloc (.cells #[.string x] 9)) (.slice (some ⟨Wa.heap.size, 0, none⟩) 1 1) [x]) := Src.one Wa x _
                    have HQWb : Hid (Wa.heap.size < (Wa.alloc (.cells #[.string x] 9)).heap.size) := by
                      have h : Wa.heap.size < (Wa.alloc (.cells #[.string x] 9)).heap.size := by simp
                      exact h
                    have HOWb : Hid ((Wa.alloc (.cells #[.string x] 9)).ownsRow W.heap.size 9 1 v0 ([] : List ByteArray).length (sc [])) := HOWa.out.alloc _
                    have HNE : Hid (q0 ≠ Wa.heap.size) := by
                      have h : q0 ≠ Wa.heap.size := by have := (HOWa.out.lt q0 HV0.out).2; omega
                      exact h
                    obtain ⟨qx, hqx⟩ : ∃ q0, q0 = Wa.heap.size := ⟨_, rfl⟩
                    rw [← hqx] at HSWb HQWb
                    rw [← hqx]
                    rw [← hqx] at HNE
                    clear hqx
                    clear hHeld
                    refine hK.out _ _ HBWb.out (fun hHeld => ?_)
                    clear hK K
                    generalize Wa.alloc (.cells #[.string x] 9) = Wb at *
                    refine wpAnyH_ready (rs := [4]) (by kernel_rfl) (by simp) ?_
                    refine AllReadyH.cons (o := _) rfl (fun K hK => ?_) AllReadyH.nil
                    refine wp_strs _ _ rfl W.heap.size v0 (.slice (some ⟨g2, 0, none⟩) tc tc) [] (ts.take tc) Wb rfl rfl HOWb.out HBWb.out.size (HSR.out.1.below HBWb.out) (by have := HMX.out; simp only [List.length_nil]; omega) ?_
                    intro v1 Wc ho hb hg
                    have HOWc : Hid (Wc.ownsRow W.heap.size 9 1 v1 (ts.take tc).length (sc (ts.take tc))) := ho
                    have HBWc : Hid (Below W.heap.size W Wc) := HBWb.out.trans hb
                    have HSWc : Hid (Src Wc (.slice (some ⟨qx, 0, none⟩) 1 1) [x]) := HSWb.out.grown hg (by rw [HV0.out]; intro e; exact HNE.out (Option.some.inj e))
                    clear ho hb hg
                    go_simp
                    clear hHeld
                    refine hK.out _ _ HBWc.out (fun hHeld => ?_)
                    clear hK K
                    refine wpAnyH_ready (rs := [7]) (by kernel_rfl) (by simp) ?_
                    refine AllReadyH.cons (o := _) rfl (fun K hK => ?_) AllReadyH.nil
                    refine wp_strs _ _ rfl W.heap.size v1 (.slice (some ⟨qx, 0, none⟩) 1 1) (ts.take tc) [x] Wc rfl rfl HOWc.out HBWc.out.size HSWc.out (by have := HMX.out; simp only [List.length_cons, List.length_nil]; omega) ?_
                    intro v2 Wd ho hb hg
                    have HOd : Hid (Wd.ownsRow W.heap.size 9 1 v2 (ts.take tc ++ [x]).length (sc (ts.take tc ++ [x]))) := ho
                    have HBd : Hid (Below W.heap.size W Wd) := HBWc.out.trans hb
                    clear ho hb hg
                    go_simp
                    clear hHeld
                    refine hK.out _ _ HBd.out (fun hHeld => ?_)
                    clear hK K
                    refine wpAnyH_ready (rs := [11]) (by kernel_rfl) (by simp) ?_
                    refine AllReadyH.cons (o := _) rfl (fun K hK => ?_) AllReadyH.nil
                    refine wp_strs _ _ rfl W.heap.size v2 (.slice (some ⟨g2, 0, none⟩) 0 0) (ts.take tc ++ [x]) (ts.drop tc) Wd rfl rfl HOd.out HBd.out.size (HSR.out.2.below HBd.out) (by have := HMX.out; simp only [List.length_append, List.length_cons, List.length_nil]; omega) ?_
                    intro v3 We ho hb hg
                    have HOe : Hid (We.ownsRow W.heap.size 9 1 v3 (ts.take tc ++ [x] ++ ts.drop tc).length (sc (ts.take tc ++ [x] ++ ts.drop tc))) := ho
                    have HBe : Hid (Below W.heap.size W We) := HBd.out.trans hb
                    clear ho hb hg
                    go_simp
                    clear hHeld
                    refine hK.out _ _ HBe.out (fun hHeld => ?_)
                    clear hK K
                    refine' take_at (i := 12) (d := 3) (v := _) rfl rfl (by kernel_rfl) (by kernel_rfl) (by kernel_rfl) (fun _ _ _ h => h) (Or.inl ⟨by rfl, ?h12⟩) (by assumption) ?_
                    case h12 => intro w hSw; go_simp; with_reducible rfl
                    simp only [List.setIfInBounds_toArray, List.set_cons_zero, List.set_cons_succ]
                    refine wpAnyH_done (by kernel_rfl) ?_ _
                    clear hHeld
                    have HLE1 : Hid ((ts.take tc ++ [x] ++ ts.drop tc).length = tc + 1) := by
                      have h : (ts.take tc ++ [x] ++ ts.drop tc).length = tc + 1 := by have := HMX.out; simp only [List.length_append, List.length_cons, List.length_nil]; omega
                      exact h
                    go_wp2
                    go_roundw
                    case rel => exact ⟨k + 1, ts.take tc ++ [x] ++ ts.drop tc, by omega, by go_num, Tf.own HOe.out (by have := HLE1.out; omega), by have := HLE1.out; have := HTL.out; have := HTP.out.1; omega, HNEW.out, HBW.out.trans (HBe.out.mono HBW.out.size)⟩
                    case measure => simp [intOf]; omega
                · go_simp
                  have HBWa : Hid (Below W.heap.size W (W.alloc (.cells #[.string x] 9))) := (Below.refl _ W).alloc (Nat.le_refl _) _
                  have HSWa : Hid (Src (W.alloc (.cells #[.string x] 9)) (.slice (some ⟨W.heap.size, 0, none⟩) 1 1) [x]) := Src.one W x _
                  have HQWa : Hid (W.heap.size < (W.alloc (.cells #[.string x] 9)).heap.size) := by
                    have h : W.heap.size < (W.alloc (.cells #[.string x] 9)).heap.size := by simp
                    exact h
                  obtain ⟨qx, hqx⟩ : ∃ q0, q0 = W.heap.size := ⟨_, rfl⟩
                  rw [← hqx] at HSWa HQWa
                  rw [← hqx]
                  clear hqx
                  clear hHeld
                  refine hK.out _ _ HBWa.out (fun hHeld => ?_)
                  clear hK K
                  generalize W.alloc (.cells #[.string x] 9) = Wa at *
                  refine wpAnyH_ready (rs := [0]) (by kernel_rfl) (by simp) ?_
                  refine AllReadyH.cons (o := _) rfl (fun K hK => ?_) AllReadyH.nil
                  go_simp
                  have HBWb : Hid (Below W.heap.size W (Wa.alloc (.cells #[] 9))) := (HBWa.out).alloc (HBWa.out.size) _
                  obtain ⟨q0, hq0⟩ : ∃ q0, q0 = Wa.heap.size := ⟨_, rfl⟩
                  obtain ⟨v0, hv0⟩ : ∃ v, v = Value.slice (some ⟨q0, 0, none⟩) 0 0 := ⟨_, rfl⟩
                  have HOWb : Hid ((Wa.alloc (.cells #[] 9)).ownsRow W.heap.size 9 1 v0 ([] : List ByteArray).length (sc [])) := by
                    rw [hv0, hq0]
                    exact World.ownsRow_made Wa #[] 0 (HBWa.out.size) (by decide) rfl
                  have HV0 : Hid (v0.ownBlock = some q0) := by
                    have h : v0.ownBlock = some q0 := by rw [hv0]; rfl
                    exact h
                  have HSWb : Hid (Src (Wa.alloc (.cells #[] 9)) (.slice (some ⟨qx, 0, none⟩) 1 1) [x]) := HSWa.out.below ((Below.refl _ Wa).alloc (Nat.le_refl _) _)
                  have HNE : Hid (q0 ≠ qx) := by
                    have h : q0 ≠ qx := by have := HQWa.out; omega
                    exact h
                  rw [← hq0, ← hv0]
                  clear hv0 hq0
                  clear hHeld
                  refine hK.out _ _ HBWb.out (fun hHeld => ?_)
                  clear hK K
                  generalize Wa.alloc (.cells #[] 9) = Wb at *
                  refine wpAnyH_ready (rs := [4]) (by kernel_rfl) (by simp) ?_
                  refine AllReadyH.cons (o := _) rfl (fun K hK => ?_) AllReadyH.nil
                  refine wp_strs _ _ rfl W.heap.size v0 (.slice (some ⟨g2, 0, none⟩) tc tc) [] (ts.take tc) Wb rfl rfl HOWb.out HBWb.out.size (HSR.out.1.below HBWb.out) (by have := HMX.out; simp only [List.length_nil]; omega) ?_
                  intro v1 Wc ho hb hg
                  have HOWc : Hid (Wc.ownsRow W.heap.size 9 1 v1 (ts.take tc).length (sc (ts.take tc))) := ho
                  have HBWc : Hid (Below W.heap.size W Wc) := HBWb.out.trans hb
                  have HSWc : Hid (Src Wc (.slice (some ⟨qx, 0, none⟩) 1 1) [x]) := HSWb.out.grown hg (by rw [HV0.out]; intro e; exact HNE.out (Option.some.inj e))
                  clear ho hb hg
                  go_simp
                  clear hHeld
                  refine hK.out _ _ HBWc.out (fun hHeld => ?_)
                  clear hK K
                  refine wpAnyH_ready (rs := [7]) (by kernel_rfl) (by simp) ?_
                  refine AllReadyH.cons (o := _) rfl (fun K hK => ?_) AllReadyH.nil
                  refine wp_strs _ _ rfl W.heap.size v1 (.slice (some ⟨qx, 0, none⟩) 1 1) (ts.take tc) [x] Wc rfl rfl HOWc.out HBWc.out.size HSWc.out (by have := HMX.out; simp only [List.length_cons, List.length_nil]; omega) ?_
                  intro v2 Wd ho hb hg
                  have HOd : Hid (Wd.ownsRow W.heap.size 9 1 v2 (ts.take tc ++ [x]).length (sc (ts.take tc ++ [x]))) := ho
                  have HBd : Hid (Below W.heap.size W Wd) := HBWc.out.trans hb
                  clear ho hb hg
                  go_simp
                  clear hHeld
                  refine hK.out _ _ HBd.out (fun hHeld => ?_)
                  clear hK K
                  refine wpAnyH_ready (rs := [11]) (by kernel_rfl) (by simp) ?_
                  refine AllReadyH.cons (o := _) rfl (fun K hK => ?_) AllReadyH.nil
                  refine wp_strs _ _ rfl W.heap.size v2 (.slice (some ⟨g2, 0, none⟩) 0 0) (ts.take tc ++ [x]) (ts.drop tc) Wd rfl rfl HOd.out HBd.out.size (HSR.out.2.below HBd.out) (by have := HMX.out; simp only [List.length_append, List.length_cons, List.length_nil]; omega) ?_
                  intro v3 We ho hb hg
                  have HOe : Hid (We.ownsRow W.heap.size 9 1 v3 (ts.take tc ++ [x] ++ ts.drop tc).length (sc (ts.take tc ++ [x] ++ ts.drop tc))) := ho
                  have HBe : Hid (Below W.heap.size W We) := HBd.out.trans hb
                  clear ho hb hg
                  go_simp
                  clear hHeld
                  refine hK.out _ _ HBe.out (fun hHeld => ?_)
                  clear hK K
                  refine' take_at (i := 12) (d := 3) (v := _) rfl rfl (by kernel_rfl) (by kernel_rfl) (by kernel_rfl) (fun _ _ _ h => h) (Or.inl ⟨by rfl, ?h12⟩) (by assumption) ?_
                  case h12 => intro w hSw; go_simp; with_reducible rfl
                  simp only [List.setIfInBounds_toArray, List.set_cons_zero, List.set_cons_succ]
                  refine wpAnyH_done (by kernel_rfl) ?_ _
                  clear hHeld
                  have HLE1 : Hid ((ts.take tc ++ [x] ++ ts.drop tc).length = tc + 1) := by
                    have h : (ts.take tc ++ [x] ++ ts.drop tc).length = tc + 1 := by have := HMX.out; simp only [List.length_append, List.length_cons, List.length_nil]; omega
                    exact h
                  go_wp2
                  go_roundw
                  case rel => exact ⟨k + 1, ts.take tc ++ [x] ++ ts.drop tc, by omega, by go_num, Tf.own HOe.out (by have := HLE1.out; omega), by have := HLE1.out; have := HTL.out; have := HTP.out.1; omega, HNEW.out, HBW.out.trans (HBe.out.mono HBW.out.size)⟩
                  case measure => simp [intOf]; omega
              · have hqc : (q : Int) ≤ (tc : Int) := by omega
                have HNEW : Hid (Ts.Tops (os.take (k + 1)) ((ts.take q ++ [x] ++ ts.drop q).map (·.data.toList))) := by
                  have h : Ts.Tops (os.take (k + 1)) ((ts.take q ++ [x] ++ ts.drop q).map (·.data.toList)) := by
                    rw [take_more HK.out.1, List.map_append, List.map_append, List.map_take, List.map_drop, List.map_singleton, HX.out]
                    refine Ts.tops_new HTP.out.2 (by rw [List.length_map]; have := HTL.out; omega) (fun e => ?_) (fun j y hj hy => ?_) (fun y hy => ?_)
                    · rw [← HX.out] at e
                      have := HXE.out
                      rw [ByteArray.toList_eq, e] at this
                      cases this
                    · rw [List.getElem?_map] at hy
                      obtain ⟨z, hz, rfl⟩ := Option.map_eq_some_iff.1 hy
                      have := HLOW.out j z hj hz
                      rw [ByteArray.toList_eq, ByteArray.toList_eq, HX.out] at this
                      exact this
                    · rw [List.getElem?_map] at hy
                      obtain ⟨z, hz, rfl⟩ := Option.map_eq_some_iff.1 hy
                      have := (List.getElem?_eq_some_iff.1 hz).1
                      have := HTL.out
                      omega

                  exact h
                go_wp2
                have HSR : Hid (Src wr.drew (.slice (some ⟨g2, 0, none⟩) q tc) (ts.take q) ∧ Src wr.drew (.slice (some ⟨g2, q, none⟩) 0 (tc - q)) (ts.drop q)) := src_last HTL.out HCL.out
                have HBW : Hid (Below w.heap.size w wr.drew) := HB2.out.drew
                have hmx : (ts.take q).length + 1 + (ts.drop q).length = q + 1 := by rw [List.length_take, List.length_drop]; have := HTL.out; omega
                have HMX : Hid ((ts.take q).length + 1 + (ts.drop q).length = q + 1) := hmx
                clear hmx
                obtain ⟨W, hW⟩ : ∃ W, W = wr.drew := ⟨_, rfl⟩
                rw [← hW] at HSR HBW
                refine wp_region_held_drew (S := (fun w' => Below W.heap.size W w')) (by kernel_rfl) (by rw [hW]; exact Below.refl _ _) (fun hHeld => ?_)
                rw [← hW]
                clear hW hHeld
                have hHeld : Below W.heap.size W W := Below.refl _ W
                refine' take_at (i := 1) (d := 50) (v := _) rfl rfl (by kernel_rfl) (by kernel_rfl) (by kernel_rfl) (fun _ _ _ h => h) (Or.inl ⟨by rfl, ?h1⟩) (by assumption) ?_
                case h1 => intro w hSw; go_simp; with_reducible rfl
                simp only [List.setIfInBounds_toArray, List.set_cons_zero, List.set_cons_succ]
                refine' take_at (i := 2) (d := 51) (v := _) rfl rfl (by kernel_rfl) (by kernel_rfl) (by kernel_rfl) (fun _ _ _ h => h) (Or.inl ⟨by rfl, ?h2⟩) (by assumption) ?_
                case h2 => intro w hSw; go_simp; with_reducible rfl
                simp only [List.setIfInBounds_toArray, List.set_cons_zero, List.set_cons_succ]
                refine' take_at (i := 3) (d := 52) (v := _) rfl rfl (by kernel_rfl) (by kernel_rfl) (by kernel_rfl) (fun _ _ _ h => h) (Or.inl ⟨by rfl, ?h3⟩) (by assumption) ?_
                case h3 => intro w hSw; go_simp; with_reducible rfl
                simp only [List.setIfInBounds_toArray, List.set_cons_zero, List.set_cons_succ]
                refine' take_at (i := 5) (d := 54) (v := _) rfl rfl (by kernel_rfl) (by kernel_rfl) (by kernel_rfl) (fun _ _ _ h => h) (Or.inl ⟨by rfl, ?h5⟩) (by assumption) ?_
                case h5 => intro w hSw; go_simp; with_reducible rfl
                simp only [List.setIfInBounds_toArray, List.set_cons_zero, List.set_cons_succ]
                refine' take_at (i := 8) (d := 57) (v := _) rfl rfl (by kernel_rfl) (by kernel_rfl) (by kernel_rfl) (fun _ _ _ h => h) (Or.inl ⟨by rfl, ?h8⟩) (by assumption) ?_
                case h8 => intro w hSw; go_simp; with_reducible rfl
                simp only [List.setIfInBounds_toArray, List.set_cons_zero, List.set_cons_succ]
                refine' take_at (i := 9) (d := 58) (v := _) rfl rfl (by kernel_rfl) (by kernel_rfl) (by kernel_rfl) (fun _ _ _ h => h) (Or.inl ⟨by rfl, ?h9⟩) (by assumption) ?_
                case h9 => intro w hSw; go_simp; with_reducible rfl
                simp only [List.setIfInBounds_toArray, List.set_cons_zero, List.set_cons_succ]
                refine' take_at (i := 10) (d := 59) (v := (.slice (some ⟨g2, q, none⟩) 0 (tc - q))) rfl rfl (by kernel_rfl) (by kernel_rfl) (by kernel_rfl) (fun _ _ _ h => h) (Or.inl ⟨by rfl, ?h10⟩) (by assumption) ?_
                case h10 => intro w hSw; go_simp; (try (first | with_reducible rfl | (intro e; omega)))
                simp only [List.setIfInBounds_toArray, List.set_cons_zero, List.set_cons_succ]
                refine wpAnyH_ready (rs := [0, 6]) (by kernel_rfl) (by simp) ?_
                refine AllReadyH.cons (o := _) rfl (fun K hK => ?_) (AllReadyH.cons (o := _) rfl (fun K hK => ?_) AllReadyH.nil)
                · go_simp
                  have HBWa : Hid (Below W.heap.size W (W.alloc (.cells #[] 9))) := (Below.refl _ W).alloc (Nat.le_refl _) _
                  obtain ⟨q0, hq0⟩ : ∃ q0, q0 = W.heap.size := ⟨_, rfl⟩
                  obtain ⟨v0, hv0⟩ : ∃ v, v = Value.slice (some ⟨q0, 0, none⟩) 0 0 := ⟨_, rfl⟩
                  have HOWa : Hid ((W.alloc (.cells #[] 9)).ownsRow W.heap.size 9 1 v0 ([] : List ByteArray).length (sc [])) := by
                    rw [hv0, hq0]
                    exact World.ownsRow_made W #[] 0 (Nat.le_refl _) (by decide) rfl
                  have HV0 : Hid (v0.ownBlock = some q0) := by
                    have h : v0.ownBlock = some q0 := by rw [hv0]; rfl
                    exact h
                  rw [← hq0, ← hv0]
                  clear hv0 hq0
                  clear hHeld
                  refine hK.out _ _ HBWa.out (fun hHeld => ?_)
                  clear hK K
                  generalize W.alloc (.cells #[] 9) = Wa at *
                  refine wpAnyH_ready (rs := [4, 6]) (by kernel_rfl) (by simp) ?_
                  refine AllReadyH.cons (o := _) rfl (fun K hK => ?_) (AllReadyH.cons (o := _) rfl (fun K hK => ?_) AllReadyH.nil)
                  · refine wp_strs _ _ rfl W.heap.size v0 (.slice (some ⟨g2, 0, none⟩) q tc) [] (ts.take q) Wa rfl rfl HOWa.out HBWa.out.size (HSR.out.1.below HBWa.out) (by have := HMX.out; simp only [List.length_nil]; omega) ?_
                    intro v1 Wb ho hb hg
                    have HOWb : Hid (Wb.ownsRow W.heap.size 9 1 v1 (ts.take q).length (sc (ts.take q))) := ho
                    have HBWb : Hid (Below W.heap.size W Wb) := HBWa.out.trans hb
                    clear ho hb hg
                    go_simp
                    clear hHeld
                    refine hK.out _ _ HBWb.out (fun hHeld => ?_)
                    clear hK K
                    refine wpAnyH_ready (rs := [6]) (by kernel_rfl) (by simp) ?_
                    refine AllReadyH.cons (o := _) rfl (fun K hK => ?_) AllReadyH.nil
                    go_simp
                    have HBWc : Hid (Below W.heap.size W (Wb.alloc (.cells #[.string x] 9))) := (HBWb.out).alloc (HBWb.out.size) _
                    have HSWc : Hid (Src (Wb.alloc (.cells #[.string x] 9)) (.slice (some ⟨Wb.heap.size, 0, none⟩) 1 1) [x]) := Src.one Wb x _
                    have HQWc : Hid (Wb.heap.size < (Wb.alloc (.cells #[.string x] 9)).heap.size) := by
                      have h : Wb.heap.size < (Wb.alloc (.cells #[.string x] 9)).heap.size := by simp
                      exact h
                    have HOWc : Hid ((Wb.alloc (.cells #[.string x] 9)).ownsRow W.heap.size 9 1 v1 ((ts.take q) : List ByteArray).length (sc (ts.take q))) := HOWb.out.alloc _
                    obtain ⟨qx, hqx⟩ : ∃ q0, q0 = Wb.heap.size := ⟨_, rfl⟩
                    rw [← hqx] at HSWc HQWc
                    rw [← hqx]
                    clear hqx
                    clear hHeld
                    refine hK.out _ _ HBWc.out (fun hHeld => ?_)
                    clear hK K
                    generalize Wb.alloc (.cells #[.string x] 9) = Wc at *
                    refine wpAnyH_ready (rs := [7]) (by kernel_rfl) (by simp) ?_
                    refine AllReadyH.cons (o := _) rfl (fun K hK => ?_) AllReadyH.nil
                    refine wp_strs _ _ rfl W.heap.size v1 (.slice (some ⟨qx, 0, none⟩) 1 1) (ts.take q) [x] Wc rfl rfl HOWc.out HBWc.out.size HSWc.out (by have := HMX.out; simp only [List.length_cons, List.length_nil]; omega) ?_
                    intro v2 Wd ho hb hg
                    have HOd : Hid (Wd.ownsRow W.heap.size 9 1 v2 (ts.take q ++ [x]).length (sc (ts.take q ++ [x]))) := ho
                    have HBd : Hid (Below W.heap.size W Wd) := HBWc.out.trans hb
                    clear ho hb hg
                    go_simp
                    clear hHeld
                    refine hK.out _ _ HBd.out (fun hHeld => ?_)
                    clear hK K
                    refine wpAnyH_ready (rs := [11]) (by kernel_rfl) (by simp) ?_
                    refine AllReadyH.cons (o := _) rfl (fun K hK => ?_) AllReadyH.nil
                    refine wp_strs _ _ rfl W.heap.size v2 (.slice (some ⟨g2, q, none⟩) 0 (tc - q)) (ts.take q ++ [x]) (ts.drop q) Wd rfl rfl HOd.out HBd.out.size (HSR.out.2.below HBd.out) (by have := HMX.out; simp only [List.length_append, List.length_cons, List.length_nil]; omega) ?_
                    intro v3 We ho hb hg
                    have HOe : Hid (We.ownsRow W.heap.size 9 1 v3 (ts.take q ++ [x] ++ ts.drop q).length (sc (ts.take q ++ [x] ++ ts.drop q))) := ho
                    have HBe : Hid (Below W.heap.size W We) := HBd.out.trans hb
                    clear ho hb hg
                    go_simp
                    clear hHeld
                    refine hK.out _ _ HBe.out (fun hHeld => ?_)
                    clear hK K
                    refine' take_at (i := 12) (d := 3) (v := _) rfl rfl (by kernel_rfl) (by kernel_rfl) (by kernel_rfl) (fun _ _ _ h => h) (Or.inl ⟨by rfl, ?h12⟩) (by assumption) ?_
                    case h12 => intro w hSw; go_simp; with_reducible rfl
                    simp only [List.setIfInBounds_toArray, List.set_cons_zero, List.set_cons_succ]
                    refine wpAnyH_done (by kernel_rfl) ?_ _
                    clear hHeld
                    have HLE1 : Hid ((ts.take q ++ [x] ++ ts.drop q).length = q + 1) := by
                      have h : (ts.take q ++ [x] ++ ts.drop q).length = q + 1 := by have := HMX.out; simp only [List.length_append, List.length_cons, List.length_nil]; omega
                      exact h
                    go_wp2
                    go_roundw
                    case rel => exact ⟨k + 1, ts.take q ++ [x] ++ ts.drop q, by omega, by go_num, Tf.own HOe.out (by have := HLE1.out; omega), by have := HLE1.out; have := HTL.out; have := HTP.out.1; omega, HNEW.out, HBW.out.trans (HBe.out.mono HBW.out.size)⟩
                    case measure => simp [intOf]; omega
                  · go_simp
                    have HBWb : Hid (Below W.heap.size W (Wa.alloc (.cells #[.string x] 9))) := (HBWa.out).alloc (HBWa.out.size) _
                    have HSWb : Hid (Src (Wa.alloc (.cells #[.string x] 9)) (.slice (some ⟨Wa.heap.size, 0, none⟩) 1 1) [x]) := Src.one Wa x _
                    have HQWb : Hid (Wa.heap.size < (Wa.alloc (.cells #[.string x] 9)).heap.size) := by
                      have h : Wa.heap.size < (Wa.alloc (.cells #[.string x] 9)).heap.size := by simp
                      exact h
                    have HOWb : Hid ((Wa.alloc (.cells #[.string x] 9)).ownsRow W.heap.size 9 1 v0 ([] : List ByteArray).length (sc [])) := HOWa.out.alloc _
                    have HNE : Hid (q0 ≠ Wa.heap.size) := by
                      have h : q0 ≠ Wa.heap.size := by have := (HOWa.out.lt q0 HV0.out).2; omega
                      exact h
                    obtain ⟨qx, hqx⟩ : ∃ q0, q0 = Wa.heap.size := ⟨_, rfl⟩
                    rw [← hqx] at HSWb HQWb
                    rw [← hqx]
                    rw [← hqx] at HNE
                    clear hqx
                    clear hHeld
                    refine hK.out _ _ HBWb.out (fun hHeld => ?_)
                    clear hK K
                    generalize Wa.alloc (.cells #[.string x] 9) = Wb at *
                    refine wpAnyH_ready (rs := [4]) (by kernel_rfl) (by simp) ?_
                    refine AllReadyH.cons (o := _) rfl (fun K hK => ?_) AllReadyH.nil
                    refine wp_strs _ _ rfl W.heap.size v0 (.slice (some ⟨g2, 0, none⟩) q tc) [] (ts.take q) Wb rfl rfl HOWb.out HBWb.out.size (HSR.out.1.below HBWb.out) (by have := HMX.out; simp only [List.length_nil]; omega) ?_
                    intro v1 Wc ho hb hg
                    have HOWc : Hid (Wc.ownsRow W.heap.size 9 1 v1 (ts.take q).length (sc (ts.take q))) := ho
                    have HBWc : Hid (Below W.heap.size W Wc) := HBWb.out.trans hb
                    have HSWc : Hid (Src Wc (.slice (some ⟨qx, 0, none⟩) 1 1) [x]) := HSWb.out.grown hg (by rw [HV0.out]; intro e; exact HNE.out (Option.some.inj e))
                    clear ho hb hg
                    go_simp
                    clear hHeld
                    refine hK.out _ _ HBWc.out (fun hHeld => ?_)
                    clear hK K
                    refine wpAnyH_ready (rs := [7]) (by kernel_rfl) (by simp) ?_
                    refine AllReadyH.cons (o := _) rfl (fun K hK => ?_) AllReadyH.nil
                    refine wp_strs _ _ rfl W.heap.size v1 (.slice (some ⟨qx, 0, none⟩) 1 1) (ts.take q) [x] Wc rfl rfl HOWc.out HBWc.out.size HSWc.out (by have := HMX.out; simp only [List.length_cons, List.length_nil]; omega) ?_
                    intro v2 Wd ho hb hg
                    have HOd : Hid (Wd.ownsRow W.heap.size 9 1 v2 (ts.take q ++ [x]).length (sc (ts.take q ++ [x]))) := ho
                    have HBd : Hid (Below W.heap.size W Wd) := HBWc.out.trans hb
                    clear ho hb hg
                    go_simp
                    clear hHeld
                    refine hK.out _ _ HBd.out (fun hHeld => ?_)
                    clear hK K
                    refine wpAnyH_ready (rs := [11]) (by kernel_rfl) (by simp) ?_
                    refine AllReadyH.cons (o := _) rfl (fun K hK => ?_) AllReadyH.nil
                    refine wp_strs _ _ rfl W.heap.size v2 (.slice (some ⟨g2, q, none⟩) 0 (tc - q)) (ts.take q ++ [x]) (ts.drop q) Wd rfl rfl HOd.out HBd.out.size (HSR.out.2.below HBd.out) (by have := HMX.out; simp only [List.length_append, List.length_cons, List.length_nil]; omega) ?_
                    intro v3 We ho hb hg
                    have HOe : Hid (We.ownsRow W.heap.size 9 1 v3 (ts.take q ++ [x] ++ ts.drop q).length (sc (ts.take q ++ [x] ++ ts.drop q))) := ho
                    have HBe : Hid (Below W.heap.size W We) := HBd.out.trans hb
                    clear ho hb hg
                    go_simp
                    clear hHeld
                    refine hK.out _ _ HBe.out (fun hHeld => ?_)
                    clear hK K
                    refine' take_at (i := 12) (d := 3) (v := _) rfl rfl (by kernel_rfl) (by kernel_rfl) (by kernel_rfl) (fun _ _ _ h => h) (Or.inl ⟨by rfl, ?h12⟩) (by assumption) ?_
                    case h12 => intro w hSw; go_simp; with_reducible rfl
                    simp only [List.setIfInBounds_toArray, List.set_cons_zero, List.set_cons_succ]
                    refine wpAnyH_done (by kernel_rfl) ?_ _
                    clear hHeld
                    have HLE1 : Hid ((ts.take q ++ [x] ++ ts.drop q).length = q + 1) := by
                      have h : (ts.take q ++ [x] ++ ts.drop q).length = q + 1 := by have := HMX.out; simp only [List.length_append, List.length_cons, List.length_nil]; omega
                      exact h
                    go_wp2
                    go_roundw
                    case rel => exact ⟨k + 1, ts.take q ++ [x] ++ ts.drop q, by omega, by go_num, Tf.own HOe.out (by have := HLE1.out; omega), by have := HLE1.out; have := HTL.out; have := HTP.out.1; omega, HNEW.out, HBW.out.trans (HBe.out.mono HBW.out.size)⟩
                    case measure => simp [intOf]; omega
                · go_simp
                  have HBWa : Hid (Below W.heap.size W (W.alloc (.cells #[.string x] 9))) := (Below.refl _ W).alloc (Nat.le_refl _) _
                  have HSWa : Hid (Src (W.alloc (.cells #[.string x] 9)) (.slice (some ⟨W.heap.size, 0, none⟩) 1 1) [x]) := Src.one W x _
                  have HQWa : Hid (W.heap.size < (W.alloc (.cells #[.string x] 9)).heap.size) := by
                    have h : W.heap.size < (W.alloc (.cells #[.string x] 9)).heap.size := by simp
                    exact h
                  obtain ⟨qx, hqx⟩ : ∃ q0, q0 = W.heap.size := ⟨_, rfl⟩
                  rw [← hqx] at HSWa HQWa
                  rw [← hqx]
                  clear hqx
                  clear hHeld
                  refine hK.out _ _ HBWa.out (fun hHeld => ?_)
                  clear hK K
                  generalize W.alloc (.cells #[.string x] 9) = Wa at *
                  refine wpAnyH_ready (rs := [0]) (by kernel_rfl) (by simp) ?_
                  refine AllReadyH.cons (o := _) rfl (fun K hK => ?_) AllReadyH.nil
                  go_simp
                  have HBWb : Hid (Below W.heap.size W (Wa.alloc (.cells #[] 9))) := (HBWa.out).alloc (HBWa.out.size) _
                  obtain ⟨q0, hq0⟩ : ∃ q0, q0 = Wa.heap.size := ⟨_, rfl⟩
                  obtain ⟨v0, hv0⟩ : ∃ v, v = Value.slice (some ⟨q0, 0, none⟩) 0 0 := ⟨_, rfl⟩
                  have HOWb : Hid ((Wa.alloc (.cells #[] 9)).ownsRow W.heap.size 9 1 v0 ([] : List ByteArray).length (sc [])) := by
                    rw [hv0, hq0]
                    exact World.ownsRow_made Wa #[] 0 (HBWa.out.size) (by decide) rfl
                  have HV0 : Hid (v0.ownBlock = some q0) := by
                    have h : v0.ownBlock = some q0 := by rw [hv0]; rfl
                    exact h
                  have HSWb : Hid (Src (Wa.alloc (.cells #[] 9)) (.slice (some ⟨qx, 0, none⟩) 1 1) [x]) := HSWa.out.below ((Below.refl _ Wa).alloc (Nat.le_refl _) _)
                  have HNE : Hid (q0 ≠ qx) := by
                    have h : q0 ≠ qx := by have := HQWa.out; omega
                    exact h
                  rw [← hq0, ← hv0]
                  clear hv0 hq0
                  clear hHeld
                  refine hK.out _ _ HBWb.out (fun hHeld => ?_)
                  clear hK K
                  generalize Wa.alloc (.cells #[] 9) = Wb at *
                  refine wpAnyH_ready (rs := [4]) (by kernel_rfl) (by simp) ?_
                  refine AllReadyH.cons (o := _) rfl (fun K hK => ?_) AllReadyH.nil
                  refine wp_strs _ _ rfl W.heap.size v0 (.slice (some ⟨g2, 0, none⟩) q tc) [] (ts.take q) Wb rfl rfl HOWb.out HBWb.out.size (HSR.out.1.below HBWb.out) (by have := HMX.out; simp only [List.length_nil]; omega) ?_
                  intro v1 Wc ho hb hg
                  have HOWc : Hid (Wc.ownsRow W.heap.size 9 1 v1 (ts.take q).length (sc (ts.take q))) := ho
                  have HBWc : Hid (Below W.heap.size W Wc) := HBWb.out.trans hb
                  have HSWc : Hid (Src Wc (.slice (some ⟨qx, 0, none⟩) 1 1) [x]) := HSWb.out.grown hg (by rw [HV0.out]; intro e; exact HNE.out (Option.some.inj e))
                  clear ho hb hg
                  go_simp
                  clear hHeld
                  refine hK.out _ _ HBWc.out (fun hHeld => ?_)
                  clear hK K
                  refine wpAnyH_ready (rs := [7]) (by kernel_rfl) (by simp) ?_
                  refine AllReadyH.cons (o := _) rfl (fun K hK => ?_) AllReadyH.nil
                  refine wp_strs _ _ rfl W.heap.size v1 (.slice (some ⟨qx, 0, none⟩) 1 1) (ts.take q) [x] Wc rfl rfl HOWc.out HBWc.out.size HSWc.out (by have := HMX.out; simp only [List.length_cons, List.length_nil]; omega) ?_
                  intro v2 Wd ho hb hg
                  have HOd : Hid (Wd.ownsRow W.heap.size 9 1 v2 (ts.take q ++ [x]).length (sc (ts.take q ++ [x]))) := ho
                  have HBd : Hid (Below W.heap.size W Wd) := HBWc.out.trans hb
                  clear ho hb hg
                  go_simp
                  clear hHeld
                  refine hK.out _ _ HBd.out (fun hHeld => ?_)
                  clear hK K
                  refine wpAnyH_ready (rs := [11]) (by kernel_rfl) (by simp) ?_
                  refine AllReadyH.cons (o := _) rfl (fun K hK => ?_) AllReadyH.nil
                  refine wp_strs _ _ rfl W.heap.size v2 (.slice (some ⟨g2, q, none⟩) 0 (tc - q)) (ts.take q ++ [x]) (ts.drop q) Wd rfl rfl HOd.out HBd.out.size (HSR.out.2.below HBd.out) (by have := HMX.out; simp only [List.length_append, List.length_cons, List.length_nil]; omega) ?_
                  intro v3 We ho hb hg
                  have HOe : Hid (We.ownsRow W.heap.size 9 1 v3 (ts.take q ++ [x] ++ ts.drop q).length (sc (ts.take q ++ [x] ++ ts.drop q))) := ho
                  have HBe : Hid (Below W.heap.size W We) := HBd.out.trans hb
                  clear ho hb hg
                  go_simp
                  clear hHeld
                  refine hK.out _ _ HBe.out (fun hHeld => ?_)
                  clear hK K
                  refine' take_at (i := 12) (d := 3) (v := _) rfl rfl (by kernel_rfl) (by kernel_rfl) (by kernel_rfl) (fun _ _ _ h => h) (Or.inl ⟨by rfl, ?h12⟩) (by assumption) ?_
                  case h12 => intro w hSw; go_simp; with_reducible rfl
                  simp only [List.setIfInBounds_toArray, List.set_cons_zero, List.set_cons_succ]
                  refine wpAnyH_done (by kernel_rfl) ?_ _
                  clear hHeld
                  have HLE1 : Hid ((ts.take q ++ [x] ++ ts.drop q).length = q + 1) := by
                    have h : (ts.take q ++ [x] ++ ts.drop q).length = q + 1 := by have := HMX.out; simp only [List.length_append, List.length_cons, List.length_nil]; omega
                    exact h
                  go_wp2
                  go_roundw
                  case rel => exact ⟨k + 1, ts.take q ++ [x] ++ ts.drop q, by omega, by go_num, Tf.own HOe.out (by have := HLE1.out; omega), by have := HLE1.out; have := HTL.out; have := HTP.out.1; omega, HNEW.out, HBW.out.trans (HBe.out.mono HBW.out.size)⟩
                  case measure => simp [intOf]; omega
    · have hlt' : ¬ (k : Int) < (m : Int) := by omega
      have HF : Hid (Ts.Tops os (ts.map (·.data.toList))) := by
        have h := HTP.out.2
        rw [List.take_of_length_le (by rw [← HM.out]; omega)] at h
        exact h
      go_wp2
      go_ret
      exact ⟨_, rfl, ts, HTF.out.ss, HF.out, HB.out⟩
end Go.Proofs.YtcpajjjkhikipaaGreatDoor
