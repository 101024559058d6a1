/- The reference's PutTree: a tree's bytes. -/
import Derived.Test.YtpidafpaffpnaaaGreatDoorRfC14
import Derived.Test.YtpidafpaffpnaaaGreatDoorRfA14
import Derived.Test.YtpidafpaffpnaaaGreatDoorPlainG14
namespace Go.Proofs.YtpidafpaffpnaaaGreatDoor.Tq
theorem image_at {l : List En} {k : Nat} {e : En} (h : l[k]? = some e) : (Pk.be8 (l.length : Int) ++ (l.take k).flatMap node1).length + (node1 e).length ≤ (image l).length ∧ Pk.be8 (l.length : Int) ++ (l.take (k + 1)).flatMap node1 = (Pk.be8 (l.length : Int) ++ (l.take k).flatMap node1) ++ Kq.tx e.1 ++ Kq.bytes e.2 := by
  have e1 : l.take (k + 1) = l.take k ++ [e] := by rw [List.take_add_one, h]; rfl
  have e2 : (l.take (k + 1)).flatMap node1 = (l.take k).flatMap node1 ++ node1 e := by rw [e1, List.flatMap_append]; simp
  refine ⟨?_, by rw [e2]; unfold node1; simp only [List.append_assoc]⟩
  have h1 : (image l).length = 8 + ((l.take (k + 1)).flatMap node1).length + ((l.drop (k + 1)).flatMap node1).length := by
    unfold image
    conv => lhs; rw [← List.take_append_drop (k + 1) l]
    simp only [List.flatMap_append, List.length_append, Pk.be8_len]
    omega
  rw [h1, e2, List.length_append, List.length_append, Pk.be8_len]
  omega
end Go.Proofs.YtpidafpaffpnaaaGreatDoor.Tq
namespace Go.Proofs.YtpidafpaffpnaaaGreatDoor
open Go.RowKit
/-- An entry's cells, one by one. -/
theorem e14_all {w : World} {g b : Nat} {e : Tq.En} {v : Value} (h : ∀ (i : Nat) u, (e11 e v)[i]? = some u → w.cell? ⟨g, b + i, none⟩ = some u) : w.cell? ⟨g, b, none⟩ = some (.string e.1) ∧ w.cell? ⟨g, b + 1, none⟩ = some (.int .i64 e.2.made) ∧ w.cell? ⟨g, b + 2, none⟩ = some (.int .i64 e.2.changed) ∧ w.cell? ⟨g, b + 3, none⟩ = some (.int .i64 e.2.ver) ∧ w.cell? ⟨g, b + 4, none⟩ = some (.int .i64 e.2.kids) ∧ w.cell? ⟨g, b + 5, none⟩ = some (.int .i64 e.2.owner) ∧ w.cell? ⟨g, b + 6, none⟩ = some (.int .i64 e.2.len) ∧ w.cell? ⟨g, b + 7, none⟩ = some (.int .i64 e.2.cnt) ∧ w.cell? ⟨g, b + 8, none⟩ = some (.string e.2.data) ∧ w.cell? ⟨g, b + 9, none⟩ = some (.int .i64 e.2.next) ∧ w.cell? ⟨g, b + 10, none⟩ = some v :=
  ⟨h 0 _ rfl, h 1 _ rfl, h 2 _ rfl, h 3 _ rfl, h 4 _ rfl, h 5 _ rfl, h 6 _ rfl, h 7 _ rfl, h 8 _ rfl, h 9 _ rfl, h 10 _ rfl⟩
set_option maxRecDepth 20000 in
set_option maxHeartbeats 8000000 in
theorem refPutT_any14 (q : Nat) (room : Int) (l : List Tq.En) (w : World) (h : Rt11 w q room l) (hN : l.length ≤ 500) (hi : (Tq.image l).length ≤ 150000) (hl : ∀ e ∈ l, e.1.size ≤ 200 ∧ e.2.names.length ≤ 100 ∧ (∀ s ∈ e.2.names, s.size ≤ 40) ∧ e.2.data.size ≤ 2000) :
    Calls Tryz.prog 46 #[dptr q] w fun e w' => ∃ u, e = .returned u ∧ Bs w' u (Tq.image l) ∧ Below w.heap.size w w' := by
  obtain ⟨a, n, c, hcb, hn, hes⟩ := h
  have HL : Hid (n = l.length ∧ (Tq.image l).length ≤ 150000 ∧ (∀ e ∈ l, e.1.size ≤ 200 ∧ e.2.names.length ≤ 100 ∧ (∀ s ∈ e.2.names, s.size ≤ 40) ∧ e.2.data.size ≤ 2000) ∧ ∀ (j : Nat) e, l[j]? = some e → ∃ g o na nL nc, a = some ⟨g, o, none⟩ ∧ Ss w (.slice na nL nc) e.2.names ∧ e.2.names.length ≤ 1000 ∧ ∀ (i : Nat) u, (e11 e (.slice na nL nc))[i]? = some u → w.cell? ⟨g, o + j * 11 + i, none⟩ = some u) := ⟨hn, hi, hl, hes⟩
  have hn5 : n ≤ 500 := by omega
  have HC : Hid (∀ w', Below w.heap.size w w' → w'.cell? ⟨q, 1, none⟩ = some (.slice a n c)) := fun w' hb => Below.kept hb ((hcb.cell 1).trans rfl)
  clear hcb hn hes hN hi hl
  unfold dptr
  go_enter Tryz.func46, Tryz.ntmps46
  have c1 := HC.out w (Below.refl _ _)
  go_wp2_with fail
  clear c1
  refine (Pw.refI64_bs (.slice none 0 0) [] (n : Int) w (Bs.nil _) (by simp)).mono ?_
  rintro e w1 ⟨v1, rfl, hbs, hb⟩
  have H1 : Hid (Bs w1 v1 (Pk.be8 (l.length : Int)) ∧ Below w.heap.size w w1) := by
    rw [List.nil_append, HL.out.1] at hbs
    exact ⟨hbs, hb⟩
  obtain ⟨a1, n1, c1, rfl, hj1, hj2⟩ := hbs
  clear hb hj1 hj2
  go_wp2
  go_loopw [3, 4] (fun f i wr => ∃ (k : Nat) (fa : Option Addr) (fn fc : Nat), k ≤ n ∧ i = .int .i64 (k : Int) ∧ f = .slice fa fn fc ∧ Bs wr f (Pk.be8 (l.length : Int) ++ (l.take k).flatMap Tq.node1) ∧ Below w.heap.size w wr) (fun _ i _ => n - (intOf i).toNat)
  case atStart => exact ⟨0, a1, n1, c1, Nat.zero_le _, rfl, rfl, by simpa using H1.out.1, H1.out.2⟩
  case round =>
    obtain ⟨k, fa, fn, fc, hk, rfl, rfl, hbs, hb⟩ := hrel
    have HR : Hid (Bs wr (.slice fa fn fc) (Pk.be8 (l.length : Int) ++ (l.take k).flatMap Tq.node1) ∧ Below w.heap.size w wr) := ⟨hbs, hb⟩
    clear hbs hb
    have c1 := HC.out wr HR.out.2
    by_cases hlt : k < n
    · have hlt' : (k : Int) < (n : Int) := by omega
      have hk0 : (0 : Int) ≤ (k : Int) := by omega
      have hwk : IntKind.wrap .i64 ((k : Int) + 1) = (k : Int) + 1 := by rw [IntKind.wrap_i64]; omega
      obtain ⟨e, he⟩ : ∃ e, l[k]? = some e := ⟨_, List.getElem?_eq_getElem (by have := HL.out.1; omega)⟩
      obtain ⟨g, o, na, nL, nc, hag, hss, hnl, hcell⟩ := HL.out.2.2.2 k e he
      subst hag
      obtain ⟨p, m⟩ := e
      have HE : Hid (l[k]? = some (p, m) ∧ Ss w (.slice na nL nc) m.names ∧ (p.size ≤ 200 ∧ m.names.length ≤ 100 ∧ (∀ s ∈ m.names, s.size ≤ 40) ∧ m.data.size ≤ 2000) ∧ ∀ w', Below w.heap.size w w' → ∀ (i : Nat) u, (e11 (p, m) (.slice na nL nc))[i]? = some u → w'.cell? ⟨g, o + k * 11 + i, none⟩ = some u) := ⟨he, hss, HL.out.2.2.1 _ (List.mem_of_getElem? he), fun w' hb i u hu => Below.kept hb (hcell i u hu)⟩
      clear he hss hnl hcell
      go_upto_region 5 with fail
      clear c1
      refine wp_region_held_drew (S := fun w' => Below w.heap.size w w') (by kernel_rfl) HR.out.2.drew (fun _ => ?_)
      have H2 : Hid (Bs wr.drew (.slice fa fn fc) (Pk.be8 (l.length : Int) ++ (l.take k).flatMap Tq.node1) ∧ Below w.heap.size w wr.drew) := ⟨HR.out.1.below (Below.refl _ _).drew, HR.out.2.drew⟩
      clear HR
      generalize wr.drew = s0 at *
      obtain ⟨xs, hxs⟩ : ∃ xs, xs = Pk.be8 (l.length : Int) ++ (l.take k).flatMap Tq.node1 := ⟨_, rfl⟩
      have HX : Hid (xs.length + (Tq.node1 (p, m)).length ≤ 150000 ∧ Pk.be8 (l.length : Int) ++ (l.take (k + 1)).flatMap Tq.node1 = xs ++ Kq.tx p ++ Kq.bytes m ∧ (Tq.node1 (p, m)).length = (Kq.tx p).length + (Kq.bytes m).length) := by
        have h1 := Tq.image_at HE.out.1
        rw [← hxs] at h1
        have h2 := HL.out.2.1
        exact ⟨by omega, h1.2, by unfold Tq.node1; rw [List.length_append]⟩
      rw [← hxs] at H2
      clear hxs
      refine' take_at (i := 0) (d := 20) (v := _) rfl rfl (by kernel_rfl) (by kernel_rfl) (by kernel_rfl) (fun _ _ _ h => h) (Or.inl ⟨by rfl, ?h0⟩) (H2.out.2) ?_
      case h0 =>
        intro w hSw
        go_simp
        with_reducible rfl
      simp only [List.setIfInBounds_toArray, List.set_cons_zero, List.set_cons_succ]
      refine' take_at (i := 1) (d := 21) (v := _) rfl rfl (by kernel_rfl) (by kernel_rfl) (by kernel_rfl) (fun _ _ _ h => h) (Or.inl ⟨by rfl, ?h1⟩) (H2.out.2) ?_
      case h1 =>
        intro w hSw
        go_simp
        with_reducible rfl
      simp only [List.setIfInBounds_toArray, List.set_cons_zero, List.set_cons_succ]
      refine' take_at (i := 2) (d := 22) (v := _) rfl rfl (by kernel_rfl) (by kernel_rfl) (by kernel_rfl) (fun _ _ _ h => h) (Or.inl ⟨by rfl, ?h2⟩) (H2.out.2) ?_
      case h2 =>
        intro w hSw
        have c1 := HC.out w hSw
        go_simp
        with_reducible rfl
      simp only [List.setIfInBounds_toArray, List.set_cons_zero, List.set_cons_succ]
      refine' take_at (i := 3) (d := 23) (v := _) rfl rfl (by kernel_rfl) (by kernel_rfl) (by kernel_rfl) (fun _ _ _ h => h) (Or.inl ⟨by rfl, ?h3⟩) (H2.out.2) ?_
      case h3 =>
        intro w hSw
        have c1 := HC.out w hSw
        go_simp
        with_reducible rfl
      simp only [List.setIfInBounds_toArray, List.set_cons_zero, List.set_cons_succ]
      refine' take_at (i := 4) (d := 24) (v := _) rfl rfl (by kernel_rfl) (by kernel_rfl) (by kernel_rfl) (fun _ _ _ h => h) (Or.inl ⟨by rfl, ?h4⟩) (H2.out.2) ?_
      case h4 =>
        intro w hSw
        have c1 := HC.out w hSw
        go_simp
        with_reducible rfl
      simp only [List.setIfInBounds_toArray, List.set_cons_zero, List.set_cons_succ]
      refine' take_at (i := 5) (d := 25) (v := _) rfl rfl (by kernel_rfl) (by kernel_rfl) (by kernel_rfl) (fun _ _ _ h => h) (Or.inl ⟨by rfl, ?h5⟩) (H2.out.2) ?_
      case h5 =>
        intro w hSw
        have c1 := HC.out w hSw
        go_simp
        with_reducible rfl
      simp only [List.setIfInBounds_toArray, List.set_cons_zero, List.set_cons_succ]
      refine' take_at (i := 6) (d := 26) (v := _) rfl rfl (by kernel_rfl) (by kernel_rfl) (by kernel_rfl) (fun _ _ _ h => h) (Or.inl ⟨by rfl, ?h6⟩) (H2.out.2) ?_
      case h6 =>
        intro w hSw
        have c1 := HC.out w hSw
        go_simp
        with_reducible rfl
      simp only [List.setIfInBounds_toArray, List.set_cons_zero, List.set_cons_succ]
      refine' take_at (i := 7) (d := 27) (v := _) rfl rfl (by kernel_rfl) (by kernel_rfl) (by kernel_rfl) (fun _ _ _ h => h) (Or.inl ⟨by rfl, ?h7⟩) (H2.out.2) ?_
      case h7 =>
        intro w hSw
        obtain ⟨i0, i1, i2, i3, i4, i5, i6, i7, i8, i9, i10⟩ := e14_all (HE.out.2.2.2 w hSw)
        go_simp
        with_reducible rfl
      simp only [List.setIfInBounds_toArray, List.set_cons_zero, List.set_cons_succ]
      refine' take_at (i := 8) (d := 28) (v := _) rfl rfl (by kernel_rfl) (by kernel_rfl) (by kernel_rfl) (fun _ _ _ h => h) (Or.inl ⟨by rfl, ?h8⟩) (H2.out.2) ?_
      case h8 =>
        intro w hSw
        obtain ⟨i0, i1, i2, i3, i4, i5, i6, i7, i8, i9, i10⟩ := e14_all (HE.out.2.2.2 w hSw)
        go_simp
        with_reducible rfl
      simp only [List.setIfInBounds_toArray, List.set_cons_zero, List.set_cons_succ]
      refine' take_at (i := 10) (d := 30) (v := _) rfl rfl (by kernel_rfl) (by kernel_rfl) (by kernel_rfl) (fun _ _ _ h => h) (Or.inl ⟨by rfl, ?h10⟩) (H2.out.2) ?_
      case h10 =>
        intro w hSw
        have c1 := HC.out w hSw
        go_simp
        with_reducible rfl
      simp only [List.setIfInBounds_toArray, List.set_cons_zero, List.set_cons_succ]
      refine' take_at (i := 11) (d := 31) (v := _) rfl rfl (by kernel_rfl) (by kernel_rfl) (by kernel_rfl) (fun _ _ _ h => h) (Or.inl ⟨by rfl, ?h11⟩) (H2.out.2) ?_
      case h11 =>
        intro w hSw
        have c1 := HC.out w hSw
        go_simp
        with_reducible rfl
      simp only [List.setIfInBounds_toArray, List.set_cons_zero, List.set_cons_succ]
      refine' take_at (i := 12) (d := 32) (v := _) rfl rfl (by kernel_rfl) (by kernel_rfl) (by kernel_rfl) (fun _ _ _ h => h) (Or.inl ⟨by rfl, ?h12⟩) (H2.out.2) ?_
      case h12 =>
        intro w hSw
        have c1 := HC.out w hSw
        go_simp
        with_reducible rfl
      simp only [List.setIfInBounds_toArray, List.set_cons_zero, List.set_cons_succ]
      refine' take_at (i := 13) (d := 33) (v := _) rfl rfl (by kernel_rfl) (by kernel_rfl) (by kernel_rfl) (fun _ _ _ h => h) (Or.inl ⟨by rfl, ?h13⟩) (H2.out.2) ?_
      case h13 =>
        intro w hSw
        have c1 := HC.out w hSw
        go_simp
        with_reducible rfl
      simp only [List.setIfInBounds_toArray, List.set_cons_zero, List.set_cons_succ]
      refine' take_at (i := 14) (d := 34) (v := _) rfl rfl (by kernel_rfl) (by kernel_rfl) (by kernel_rfl) (fun _ _ _ h => h) (Or.inl ⟨by rfl, ?h14⟩) (H2.out.2) ?_
      case h14 =>
        intro w hSw
        have c1 := HC.out w hSw
        go_simp
        with_reducible rfl
      simp only [List.setIfInBounds_toArray, List.set_cons_zero, List.set_cons_succ]
      refine' take_at (i := 15) (d := 35) (v := _) rfl rfl (by kernel_rfl) (by kernel_rfl) (by kernel_rfl) (fun _ _ _ h => h) (Or.inl ⟨by rfl, ?h15⟩) (H2.out.2) ?_
      case h15 =>
        intro w hSw
        have c1 := HC.out w hSw
        go_simp
        with_reducible rfl
      simp only [List.setIfInBounds_toArray, List.set_cons_zero, List.set_cons_succ]
      refine' take_at (i := 16) (d := 36) (v := _) rfl rfl (by kernel_rfl) (by kernel_rfl) (by kernel_rfl) (fun _ _ _ h => h) (Or.inl ⟨by rfl, ?h16⟩) (H2.out.2) ?_
      case h16 =>
        intro w hSw
        obtain ⟨i0, i1, i2, i3, i4, i5, i6, i7, i8, i9, i10⟩ := e14_all (HE.out.2.2.2 w hSw)
        go_simp
        with_reducible rfl
      simp only [List.setIfInBounds_toArray, List.set_cons_zero, List.set_cons_succ]
      refine' take_at (i := 17) (d := 37) (v := _) rfl rfl (by kernel_rfl) (by kernel_rfl) (by kernel_rfl) (fun _ _ _ h => h) (Or.inl ⟨by rfl, ?h17⟩) (H2.out.2) ?_
      case h17 =>
        intro w hSw
        obtain ⟨i0, i1, i2, i3, i4, i5, i6, i7, i8, i9, i10⟩ := e14_all (HE.out.2.2.2 w hSw)
        go_simp
        with_reducible rfl
      simp only [List.setIfInBounds_toArray, List.set_cons_zero, List.set_cons_succ]
      refine wpAnyH_ready (rs := [9]) (by kernel_rfl) (by simp) ?_
      refine AllReadyH.cons (o := _) rfl (fun KQ hKQ => ?_) AllReadyH.nil
      go_simp
      refine (Pw.refTxt_any (.slice fa fn fc) xs p s0 H2.out.1 (by have := HX.out.1; omega) (by have := HE.out.2.2.1.1; omega)).mono ?_
      rintro e s1 ⟨v1, rfl, hbs, hb⟩
      have H3 : Hid (Bs s1 v1 (xs ++ Kq.tx p) ∧ Below w.heap.size w s1) := ⟨hbs, H2.out.2.trans (hb.mono H2.out.2.size)⟩
      obtain ⟨a3, n3, c3, rfl, hj1, hj2⟩ := hbs
      clear hb hj1 hj2 H2
      simp only []
      refine hKQ.out _ _ H3.out.2 (fun _ => ?_)
      clear hKQ KQ
      refine wpAnyH_ready (rs := [18]) (by kernel_rfl) (by simp) ?_
      refine AllReadyH.cons (o := _) rfl (fun KQ hKQ => ?_) AllReadyH.nil
      go_simp
      refine (refPut_any10 (.slice a3 n3 c3) (xs ++ Kq.tx p) m na nL nc s1 H3.out.1 (HE.out.2.1.below H3.out.2) (by have := HE.out.2.2.1.2.1; omega) (fun s hs => by have := HE.out.2.2.1.2.2.1 s hs; omega) HE.out.2.2.1.2.2.2 (by have h1 := HX.out.1; have h2 := HX.out.2.2; have h3 := HE.out.2.2.1.2.1; rw [List.length_append]; omega)).mono ?_
      rintro e s2 ⟨v2, rfl, hbs, hb⟩
      have H4 : Hid (Bs s2 v2 (Pk.be8 (l.length : Int) ++ (l.take (k + 1)).flatMap Tq.node1) ∧ Below w.heap.size w s2) := by
        rw [HX.out.2.1]
        exact ⟨hbs, H3.out.2.trans (hb.mono H3.out.2.size)⟩
      obtain ⟨a4, n4, c4, rfl, hj1, hj2⟩ := hbs
      clear hb hj1 hj2 H3
      simp only []
      refine hKQ.out _ _ H4.out.2 (fun _ => ?_)
      clear hKQ KQ
      refine' take_at (i := 19) (d := 3) (v := _) rfl rfl (by kernel_rfl) (by kernel_rfl) (by kernel_rfl) (fun _ _ _ h => h) (Or.inl ⟨by rfl, ?h19⟩) (H4.out.2) ?_
      case h19 =>
        intro w hSw
        go_simp
        with_reducible rfl
      simp only [List.setIfInBounds_toArray, List.set_cons_zero, List.set_cons_succ]
      refine wpAnyH_done (by kernel_rfl) ?_ _
      go_wp2
      go_roundw
      case rel => exact ⟨k + 1, a4, n4, c4, by omega, by go_num, rfl, H4.out.1, H4.out.2⟩
      case measure => simp [intOf]; omega
    · have hlt' : ¬ (k : Int) < (n : Int) := by omega
      have HF : Hid (Bs wr (.slice fa fn fc) (Tq.image l)) := by
        have h := HR.out.1
        rw [List.take_of_length_le (by have := HL.out.1; omega)] at h
        exact h
      go_wp2
      go_ret
      exact ⟨_, rfl, HF.out, HR.out.2⟩
end Go.Proofs.YtpidafpaffpnaaaGreatDoor
