/- What the landed log's base answers: its walk. -/
import Derived.Test.YtmbpkbdaakchiaaWlC8
import Derived.Test.YtmbpkbdaakchiaaPlainZ8
namespace Go.Proofs.Ytmbpkbdaakchiaa
open Go.RowKit

/-- On the way: the disk as it was. -/
structure OnW (w w' : World) (qd : Nat) (st : Dq.St) (F F' : Nat → Prop) : Prop where
  dk : DkD w' qd st F'
  mv : Moved w w' F F'
theorem OnW.later {w w1 w2 : World} {qd : Nat} {st : Dq.St} {F F' : Nat → Prop} (h : OnW w w1 qd st F F') (hb : Below w1.heap.size w1 w2) : OnW w w2 qd st F F' := ⟨h.dk.below hb, h.mv.trans (Moved.of_below F' hb)⟩
theorem base_size : Wq.baseN.size ≤ 9223372036854775807 := by decide

set_option maxRecDepth 20000 in
set_option maxHeartbeats 4000000 in
theorem base_any (qd : Nat) (st : Dq.St) (F : Nat → Prop) (w : World) (hd : DkD w qd st F) (hf : FineW st) :
    Calls Try.prog 21 #[dptr qd] w fun e w' => ∃ F', e = .returned (.tuple #[.int .i64 (baseE st).1, .int .i64 (baseE st).2]) ∧ OnW w w' qd st F F' := by
  have HD : Hid (DkD w qd st F ∧ FineW st) := ⟨hd, hf⟩
  clear hd hf
  cases hoff : st.off with
  | true =>
    have HX : Hid (baseE st = (0, 10) ∧ Dq.read st Wq.baseN = ([], 10)) := ⟨by unfold baseE; rw [hoff]; rfl, read_off hoff _⟩
    rw [HX.out.1]
    clear hoff
    go_enter Try.func21, Try.ntmps21
    go_wp2_with fail
    refine (specs_any7.read qd st F Wq.baseN w HD.out.1 HD.out.2.1).mono ?_
    rintro e w1 ⟨F1, v, rfl, h1, h2, h3, h4⟩
    rw [HX.out.2] at h1 ⊢
    have HW : Hid (OnW w w1 qd st F F1) := ⟨h3, h4⟩
    clear h1 h2 h3 h4
    go_wp2
    go_ret2
    exact ⟨F1, rfl, HW.out⟩
  | false =>
    have HOF : Hid (st.off = false) := hoff
    rcases read_on hoff Wq.may_base with hr | hr
    · have HR0 : Hid ((Dq.read st Wq.baseN).2 = 0) := hr
      clear hoff hr
      obtain ⟨b, hb⟩ : ∃ b, b = (Dq.read st Wq.baseN).1 := ⟨_, rfl⟩
      have HBL : Hid (b.length ≤ 100000 ∧ b = (Dq.read st Wq.baseN).1) := ⟨by rw [hb]; have h1 := read_len8 HD.out.2.1.1 Wq.baseN; have h2 := HD.out.2.2.1; omega, hb⟩
      clear hb
      obtain ⟨k, hk⟩ : ∃ k, k = (Fr.scan b).1.length := ⟨_, rfl⟩
      have HK : Hid (k = (Fr.scan b).1.length) := hk
      obtain ⟨hw, hhw⟩ : ∃ hw, hw = (Fr.scan b).2.2 := ⟨_, rfl⟩
      have HH : Hid (hw = (Fr.scan b).2.2) := hhw
      clear hk hhw
      by_cases k1 : k = 1
      · by_cases h0 : hw = 0
        · subst k1 h0
          obtain ⟨r, hr⟩ : ∃ r, (Fr.scan b).1 = [r] := List.length_eq_one_iff.1 HK.out.symm
          have HRR : Hid ((Fr.scan b).1 = [r]) := hr
          have HRL : Hid (r.length ≤ 20000) := (Fr.scan_says _ b (Nat.le_refl _)).2.2.1 r (by rw [hr]; simp)
          have HX : Hid (baseE st = if r.length = 8 ∧ 1 ≤ (Pk.rI r false).1 ∧ (Pk.rI r false).1 ≤ 1099511627776 then ((Pk.rI r false).1, 0) else (0, 3)) := base_one HOF.out HR0.out (by rw [← HBL.out.2]; exact HH.out.symm) (by rw [← HBL.out.2]; exact hr)
          clear hr
          obtain ⟨z, hz⟩ : ∃ z, z = (Pk.rI r false).1 := ⟨_, rfl⟩
          have HZ : Hid (z = (Pk.rI r false).1) := hz
          rw [← hz] at HX
          clear hz
          obtain ⟨R, hR⟩ : ∃ R : Bool, R = decide (r.length = 8) := ⟨_, rfl⟩
          have HR : Hid (R = decide (r.length = 8)) := hR
          clear hR
          obtain ⟨x, hx⟩ : ∃ x, x = baseE st := ⟨_, rfl⟩
          have HXX : Hid (x = baseE st) := hx
          rw [← hx]
          clear hx
          go_enter Try.func21, Try.ntmps21
          go_wp2_with fail
          refine (specs_any7.read qd st F Wq.baseN w HD.out.1 HD.out.2.1).mono ?_
          rintro e w1 ⟨F1, v, rfl, h1, h2, h3, h4⟩
          rw [HR0.out]
          rw [← HBL.out.2] at h1
          have HW : Hid (OnW w w1 qd st F F1 ∧ Bs w1 v b) := ⟨⟨h3, h4⟩, h1⟩
          obtain ⟨vb, nb, cb, rfl, hy1, hy2⟩ := h1
          clear h2 h3 h4 hy1 hy2
          go_wp2_with fail
          refine (scan_own (.slice vb nb cb) b w1 HW.out.2 HBL.out.1).mono ?_
          rintro e w2 ⟨l, rfl, hlo, hb2⟩
          rw [← HH.out]
          have HW2 : Hid (OnW w w2 qd st F F1) := HW.out.1.later hb2
          rw [HRR.out] at hlo
          obtain ⟨us, ho1, ho2⟩ := hlo
          obtain ⟨u, hu⟩ : ∃ u, us[0]? = some u := ⟨us[0]'(by have := ho1.1; simp at this; omega), List.getElem?_eq_getElem _⟩
          have HU : Hid (Bs w2 u r) := Bs.own (ho2 0 r u rfl hu)
          have ho1' : w2.ownsRow w1.heap.size 31 1 l 1 us := ho1
          obtain ⟨gl, cl, hl2⟩ : ∃ gl cl, l = .slice (some ⟨gl, 0, none⟩) 1 cl := by
            rcases ho1'.2 with ⟨_, h0⟩ | ⟨gg, cap, cur, e, _⟩
            · exact absurd h0 (by decide)
            · exact ⟨gg, cap, e⟩
          subst hl2
          have lu : w2.cell? ⟨gl, 0, none⟩ = some u := by rw [ho1'.cellAt 0 (by omega), hu]
          obtain ⟨au, nu, cu, hu3, hy1, hy2⟩ := HU.out
          subst hu3
          obtain ⟨us1, hus1⟩ : ∃ z, z = (Fr.scan b).2.1 := ⟨_, rfl⟩
          rw [← hus1]
          clear ho1 ho2 ho1' hu hb2 hus1 hy1 hy2
          go_wp2_with fail
          refine (Pw.read_bs (.slice au nu cu) r w2 HU.out (by have := HRL.out; omega)).mono ?_
          rintro e w3 ⟨q, rfl, hq, hrd, hb3⟩
          have HW3 : Hid (OnW w w3 qd st F F1 ∧ Pw.Rd w3 q r false ∧ w2.heap.size ≤ q ∧ Below w2.heap.size w2 w3) := ⟨HW2.out.later hb3, hrd, hq, hb3⟩
          clear hq hrd hb3 lu
          go_wp2_with fail
          refine (Pw.rI64_any q r false w3 HW3.out.2.1).mono ?_
          rintro e w4 ⟨rfl, hrd, hgr⟩
          rw [← HZ.out]
          have HW4 : Hid (OnW w w4 qd st F F1 ∧ Pw.Rd w4 q (Pk.rI r false).2.1 (Pk.rI r false).2.2) := ⟨HW2.out.later (HW3.out.2.2.2.grown hgr HW3.out.2.2.2.size (fun z hz => by simp only [Option.some.injEq] at hz; rw [← hz]; exact HW3.out.2.2.1)), hrd⟩
          clear hrd hgr
          go_wp2_with fail
          refine (Pw.rEnd_any q _ _ w4 HW4.out.2).mono ?_
          rintro e w5 ⟨rfl, hw5⟩
          rw [hw5, read_all8, ← HR.out]
          clear hw5 w5
          cases hRc : R with
          | false =>
            have HY : Hid (x = (0, 3)) := by
              have h8 : ¬ r.length = 8 := of_decide_eq_false (HR.out.symm.trans hRc)
              have h : x = (0, 3) := by rw [HXX.out, HX.out, if_neg (fun h => h8 h.1)]
              exact h
            clear hRc
            go_wp2
            go_ret2
            exact ⟨F1, by rw [HY.out]; rfl, HW4.out.1⟩
          | true =>
            have h8 : r.length = 8 := of_decide_eq_true (HR.out.symm.trans hRc)
            have H8 : Hid (r.length = 8) := h8
            clear h8
            clear hRc
            by_cases z1 : z < 1
            · have HY : Hid (x = (0, 3)) := by
                have h : x = (0, 3) := by rw [HXX.out, HX.out, if_neg (fun h => by omega)]
                exact h
              have z1b : decide (z < 1) = true := by simp [z1]
              go_wp2
              go_ret2
              exact ⟨F1, by rw [HY.out]; rfl, HW4.out.1⟩
            · have z1b : decide (z < 1) = false := by simp [z1]
              by_cases z2 : 1099511627776 < z
              · have HY : Hid (x = (0, 3)) := by
                  have h : x = (0, 3) := by rw [HXX.out, HX.out, if_neg (fun h => by omega)]
                  exact h
                go_wp2
                go_ret2
                exact ⟨F1, by rw [HY.out]; rfl, HW4.out.1⟩
              · have HY : Hid (x = (z, 0)) := by
                  have h : x = (z, 0) := by rw [HXX.out, HX.out, if_pos ⟨H8.out, by omega, by omega⟩]
                  exact h
                go_wp2
                go_ret2
                exact ⟨F1, by rw [HY.out]; rfl, HW4.out.1⟩
        · have HX : Hid (baseE st = (0, 3)) := base_torn HOF.out HR0.out (by rw [← HBL.out.2, ← HH.out]; exact h0)
          rw [HX.out]
          subst k1
          have h0b : ((hw : Int) != 0) = true := by simp; omega
          go_enter Try.func21, Try.ntmps21
          go_wp2_with fail
          refine (specs_any7.read qd st F Wq.baseN w HD.out.1 HD.out.2.1).mono ?_
          rintro e w1 ⟨F1, v, rfl, h1, h2, h3, h4⟩
          rw [HR0.out]
          rw [← HBL.out.2] at h1
          have HW : Hid (OnW w w1 qd st F F1 ∧ Bs w1 v b) := ⟨⟨h3, h4⟩, h1⟩
          obtain ⟨vb, nb, cb, rfl, hy1, hy2⟩ := h1
          clear h2 h3 h4 hy1 hy2
          go_wp2_with fail
          refine (scan_own (.slice vb nb cb) b w1 HW.out.2 HBL.out.1).mono ?_
          rintro e w2 ⟨l, rfl, hlo, hb2⟩
          rw [← HH.out]
          have HW2 : Hid (OnW w w2 qd st F F1) := HW.out.1.later hb2
          obtain ⟨us, ho1, ho2⟩ := hlo
          rw [← HK.out] at ho1
          obtain ⟨al, cl, rfl, _⟩ := row_slice ho1
          obtain ⟨us1, hus1⟩ : ∃ z, z = (Fr.scan b).2.1 := ⟨_, rfl⟩
          rw [← hus1]
          clear ho1 ho2 hb2 hus1
          go_wp2
          go_ret2
          exact ⟨F1, rfl, HW2.out⟩
      · have HX : Hid (baseE st = (0, 3)) := base_many HOF.out HR0.out (by rw [← HBL.out.2, ← HK.out]; exact k1)
        rw [HX.out]
        have k1b : ((k : Int) != 1) = true := by simp; omega
        go_enter Try.func21, Try.ntmps21
        go_wp2_with fail
        refine (specs_any7.read qd st F Wq.baseN w HD.out.1 HD.out.2.1).mono ?_
        rintro e w1 ⟨F1, v, rfl, h1, h2, h3, h4⟩
        rw [HR0.out]
        rw [← HBL.out.2] at h1
        have HW : Hid (OnW w w1 qd st F F1 ∧ Bs w1 v b) := ⟨⟨h3, h4⟩, h1⟩
        obtain ⟨vb, nb, cb, rfl, hy1, hy2⟩ := h1
        clear h2 h3 h4 hy1 hy2
        go_wp2_with fail
        refine (scan_own (.slice vb nb cb) b w1 HW.out.2 HBL.out.1).mono ?_
        rintro e w2 ⟨l, rfl, hlo, hb2⟩
        rw [← HH.out]
        have HW2 : Hid (OnW w w2 qd st F F1) := HW.out.1.later hb2
        obtain ⟨us, ho1, ho2⟩ := hlo
        rw [← HK.out] at ho1
        obtain ⟨al, cl, rfl, _⟩ := row_slice ho1
        obtain ⟨us1, hus1⟩ : ∃ z, z = (Fr.scan b).2.1 := ⟨_, rfl⟩
        rw [← hus1]
        clear ho1 ho2 hb2 hus1
        go_wp2
        go_ret2
        exact ⟨F1, rfl, HW2.out⟩
    · have HX : Hid (baseE st = (1, 0) ∧ Dq.read st Wq.baseN = ([], 4)) := ⟨base_none hoff hr, hr⟩
      rw [HX.out.1]
      clear hoff hr
      go_enter Try.func21, Try.ntmps21
      go_wp2_with fail
      refine (specs_any7.read qd st F Wq.baseN w HD.out.1 HD.out.2.1).mono ?_
      rintro e w1 ⟨F1, v, rfl, h1, h2, h3, h4⟩
      rw [HX.out.2] at h1 ⊢
      have HW : Hid (OnW w w1 qd st F F1) := ⟨h3, h4⟩
      clear h1 h2 h3 h4
      go_wp2
      go_ret2
      exact ⟨F1, rfl, HW.out⟩
end Go.Proofs.Ytmbpkbdaakchiaa
