/- What the reference's Add answers. -/
import Derived.Test.YtlgpjgncimcijaaRefC10
namespace Go.Proofs.Ytlgpjgncimcijaa.Kq
theorem ins_cut (l : List ByteArray) (s : ByteArray) : ins l s = l.take (low l s).length ++ [s] ++ l.drop (low l s).length ∧ (low l s).length ≤ l.length := by
  have h3 := low_high l s
  unfold ins
  generalize low l s = a at *
  generalize high l s = b at *
  subst h3
  refine ⟨?_, by simp⟩
  rw [List.take_left', List.drop_left']
  · simp
  · rfl
  · rfl
end Go.Proofs.Ytlgpjgncimcijaa.Kq
namespace Go.Proofs.Ytlgpjgncimcijaa
open Go.RowKit

set_option maxRecDepth 20000 in
set_option maxHeartbeats 4000000 in
theorem refAdd_no (n : Kq.Kn) (a : Option Addr) (L c : Nat) (s : ByteArray) (w : World) (h : Nm w (.slice a L c) n.names) (hf : Fine10 n) (hr : Kq.Rises n.names) (hh : Kq.has n.names s = true) :
    Calls Try.prog 22 #[kv n (.slice a L c), .string s] w fun e w' => e = .returned (.tuple #[kv n (.slice a L c), .bool false]) ∧ Below w.heap.size w w' := by
  have HP : Hid (∀ w', Below w.heap.size w w' → Calls Try.prog 41 #[.slice a L c, .string s] w' fun e w1 => e = .returned (.tuple #[.int .i64 ((Kq.low n.names s).length : Int), .bool true]) ∧ Below w'.heap.size w' w1) := fun w' hb => by
    have := refPlace_any (.slice a L c) n.names s w' (h.below hb).ss (by have := hf.many; omega) hr
    rw [hh] at this
    exact this
  unfold kv
  clear h hh hf hr
  go_enter Try.func22, Try.ntmps22
  go_wp2_with fail
  have HB0 : Hid (Below w.heap.size w ((w.alloc (.cells (k10 n (.slice a L c)).toArray 40)).alloc (.cells (k10 Kq.zero (.slice none 0 0)).toArray 40))) := ((Below.refl _ w).alloc (Nat.le_refl _) _).alloc ((Below.refl _ w).alloc (Nat.le_refl _) _).size _
  refine (HP.out _ HB0.out).mono ?_
  rintro e w1 ⟨rfl, hb⟩
  have HB1 : Hid (Below w.heap.size w w1) := HB0.out.trans (hb.mono HB0.out.size)
  have hs1 : (w.alloc (.cells (k10 n (.slice a L c)).toArray 40)).heap.size = w.heap.size + 1 := by simp
  have HN : Hid (Cb w1 w.heap.size (k10 n (.slice a L c)) 40) := ((Cb.made w (k10 n (.slice a L c)) 40).below ((Below.refl _ _).alloc (Nat.le_refl _) _)).below hb
  have HZ : Hid (Cb w1 (w.heap.size + 1) (k10 Kq.zero (.slice none 0 0)) 40) := by
    have e := (Cb.made (w.alloc (.cells (k10 n (.slice a L c)).toArray 40)) (k10 Kq.zero (.slice none 0 0)) 40).below hb
    rw [hs1] at e
    exact e
  clear hb hs1
  obtain ⟨c0, c1, c2, c3, c4, c5, c6, c7, c8, c9⟩ := ten_cells HN.out
  obtain ⟨z0, z1, z2, z3, z4, z5, z6, z7, z8, z9⟩ := ten_cells HZ.out
  have f0 := HZ.out.free 0
  have f1 := HZ.out.free 1
  have f2 := HZ.out.free 2
  have f3 := HZ.out.free 3
  have f4 := HZ.out.free 4
  have f5 := HZ.out.free 5
  have f6 := HZ.out.free 6
  have f7 := HZ.out.free 7
  have f8 := HZ.out.free 8
  have f9 := HZ.out.free 9
  go_wp2_with fail
  have HX : Hid (Cb (put10 w1 (w.heap.size + 1) n (.slice a L c)) (w.heap.size + 1) (k10 n (.slice a L c)) 40) := put10_cb HZ.out
  have HBX : Hid (Below w.heap.size w (put10 w1 (w.heap.size + 1) n (.slice a L c))) := HB1.out.grown (put10_grown _ _ _ _) HB1.out.size (fun k hk => by simp at hk; omega)
  unfold put10 at HX HBX
  generalize ((((((((((w1.setCell ⟨w.heap.size + 1, 0, none⟩ (.int .i64 n.made)).setCell ⟨w.heap.size + 1, 1, none⟩ (.int .i64 n.changed)).setCell ⟨w.heap.size + 1, 2, none⟩ (.int .i64 n.ver)).setCell ⟨w.heap.size + 1, 3, none⟩ (.int .i64 n.kids)).setCell ⟨w.heap.size + 1, 4, none⟩ (.int .i64 n.owner)).setCell ⟨w.heap.size + 1, 5, none⟩ (.int .i64 n.len)).setCell ⟨w.heap.size + 1, 6, none⟩ (.int .i64 n.cnt)).setCell ⟨w.heap.size + 1, 7, none⟩ (.string n.data)).setCell ⟨w.heap.size + 1, 8, none⟩ (.int .i64 n.next)).setCell ⟨w.heap.size + 1, 9, none⟩ (.slice a L c)) = wy at *
  clear c0 c1 c2 c3 c4 c5 c6 c7 c8 c9 z0 z1 z2 z3 z4 z5 z6 z7 z8 z9 f0 f1 f2 f3 f4 f5 f6 f7 f8 f9
  refine bodyPost_ret (v := .tuple #[.agg #[.int .i64 n.made, .int .i64 n.changed, .int .i64 n.ver, .int .i64 n.kids, .int .i64 n.owner, .int .i64 n.len, .int .i64 n.cnt, .string n.data, .int .i64 n.next, .slice a L c], .bool false]) ?_ rfl ⟨rfl, HBX.out⟩
  obtain ⟨c0, c1, c2, c3, c4, c5, c6, c7, c8, c9⟩ := ten_cells HX.out
  rw [results_cell_tmp rfl]
  go_simp
set_option maxRecDepth 20000 in
set_option maxHeartbeats 16000000 in
theorem refAdd_none (n : Kq.Kn) (N c k : Nat) (s : ByteArray) (w : World) (h : Nm w (.slice (none) N c) n.names) (hNc : N = n.names.length ∧ N ≤ c ∧ N = 0 ∧ c = 0) (hf : Fine10 n) (hr : Kq.Rises n.names) (hh : Kq.has n.names s = false) (hk : k = (Kq.low n.names s).length) :
    Calls Try.prog 22 #[kv n (.slice (none) N c), .string s] w fun e w' => ∃ a' L' c', e = .returned (.tuple #[kv (Kq.add n s) (.slice a' L' c'), .bool true]) ∧ Nm w' (.slice a' L' c') (Kq.add n s).names ∧ New10 w (.slice a' L' c') ∧ Below w.heap.size w w' := by
  obtain ⟨hd, hkN⟩ := Kq.ins_cut n.names s
  have HADD : Hid (Kq.add n s = { n with names := n.names.take k ++ [s] ++ n.names.drop k, kids := Kq.more n.kids, cnt := ((n.names.length + 1 : Nat) : Int), next := Kq.more n.next }) := by
    have e := Kq.add_yes hh
    rw [hd, ← hk] at e
    exact e
  have HP : Hid (∀ w', Below w.heap.size w w' → Calls Try.prog 41 #[.slice (none) N c, .string s] w' fun e w1 => e = .returned (.tuple #[.int .i64 (k : Int), .bool false]) ∧ Below w'.heap.size w' w1) := fun w' hb => by
    have := refPlace_any (.slice (none) N c) n.names s w' (h.below hb).ss (by have := hf.many; omega) hr
    rw [hh, ← hk] at this
    exact this
  have HK : Hid ((-9223372036854775808 ≤ n.kids ∧ n.kids ≤ 9223372036854775807) ∧ (-9223372036854775808 ≤ n.next ∧ n.next ≤ 9223372036854775807)) := ⟨hf.kids, hf.next⟩
  rw [← hk] at hkN
  have HM : Hid (N = n.names.length ∧ N ≤ 1000 ∧ k ≤ N) := ⟨hNc.1, by rw [hNc.1]; exact hf.many, by rw [hNc.1]; exact hkN⟩
  have HZERO : Hid (N = 0 ∧ c = 0) := hNc.2.2
  have hLc : N ≤ c := hNc.2.1
  have hkN2 : k ≤ N := HM.out.2.2
  clear h hh hf hr hd hk hkN hNc
  have k0 : (0 : Int) ≤ (k : Int) := by omega
  have kN : (k : Int) ≤ (N : Int) := by omega
  have kc : (k : Int) ≤ (c : Int) := by omega
  unfold kv
  go_enter Try.func22, Try.ntmps22
  go_wp2_with fail
  have HB0 : Hid (Below w.heap.size w ((w.alloc (.cells (k10 n (.slice (none) N c)).toArray 40)).alloc (.cells (k10 Kq.zero (.slice none 0 0)).toArray 40))) := ((Below.refl _ w).alloc (Nat.le_refl _) _).alloc ((Below.refl _ w).alloc (Nat.le_refl _) _).size _
  refine (HP.out _ HB0.out).mono ?_
  rintro e w1 ⟨rfl, hb⟩
  have HB1 : Hid (Below w.heap.size w w1) := HB0.out.trans (hb.mono HB0.out.size)
  have hs1 : (w.alloc (.cells (k10 n (.slice (none) N c)).toArray 40)).heap.size = w.heap.size + 1 := by simp
  have HN1 : Hid (Cb w1 w.heap.size (k10 n (.slice (none) N c)) 40) := ((Cb.made w (k10 n (.slice (none) N c)) 40).below ((Below.refl _ _).alloc (Nat.le_refl _) _)).below hb
  have HZ1 : Hid (Cb w1 (w.heap.size + 1) (k10 Kq.zero (.slice none 0 0)) 40) := by
    have e := (Cb.made (w.alloc (.cells (k10 n (.slice (none) N c)).toArray 40)) (k10 Kq.zero (.slice none 0 0)) 40).below hb
    rw [hs1] at e
    exact e
  clear hb hs1
  go_wp2_with fail
  refine wp_region_U (fun w' => w'.cell? ⟨w.heap.size, 9, none⟩ = some (.slice (none) N c)) [15] (by kernel_rfl) ?_
  have HBX : Hid (Below w.heap.size w w1.drew) := HB1.out.drew
  have HN : Hid (Cb w1.drew w.heap.size (k10 n (.slice (none) N c)) 40) := HN1.out
  have HZ : Hid (Cb w1.drew (w.heap.size + 1) (k10 Kq.zero (.slice none 0 0)) 40) := HZ1.out
  have HWX : Hid (w.heap.size + 1 < w1.drew.heap.size) := HZ.out.lt
  generalize w1.drew = wX at *
  clear HN1 HZ1 HB0 HB1 HP
  have HC : Hid (∀ w', Below wX.heap.size wX w' → w'.cell? ⟨w.heap.size, 9, none⟩ = some (.slice (none) N c)) := fun w' hb => Below.kept hb (HN.out.cell 9)
  have HSX : Hid (wX.cell? ⟨w.heap.size, 9, none⟩ = some (.slice (none) N c)) := HC.out _ (Below.refl _ _)
  have HSRC : Hid ((∀ w', Below wX.heap.size wX w' → Src w' (.slice none k c) (n.names.take k)) ∧ ∀ w', Below wX.heap.size wX w' → Src w' (.slice none (N - k) (c - k)) (n.names.drop k)) := by
    have hm := HM.out
    have hz := HZERO.out
    have e1 : k = 0 := by omega
    have e2 : N - k = 0 := by omega
    have e3 : c - k = 0 := by omega
    refine ⟨fun w' hb => Or.inl ⟨by rw [e1, hz.2], by rw [e1]; rfl⟩, fun w' hb => Or.inl ⟨by rw [e2, e3], List.drop_eq_nil_iff.2 (by omega)⟩⟩
  refine' take_U (i := 1) (d := 18) (v := _) rfl rfl (by kernel_rfl) (by kernel_rfl) (by kernel_rfl) (by kernel_rfl) (by kernel_rfl) (by kernel_rfl) (fun _ _ _ h => h) (Or.inl ⟨by rfl, ?h1⟩) (HSX.out) ?_
  case h1 => intro w hSw; go_simp; with_reducible rfl
  simp only [List.setIfInBounds_toArray, List.set_cons_zero, List.set_cons_succ]
  refine' take_U (i := 2) (d := 19) (v := _) rfl rfl (by kernel_rfl) (by kernel_rfl) (by kernel_rfl) (by kernel_rfl) (by kernel_rfl) (by kernel_rfl) (fun _ _ _ h => h) (Or.inl ⟨by rfl, ?h2⟩) (HSX.out) ?_
  case h2 => intro w hSw; go_simp; with_reducible rfl
  simp only [List.setIfInBounds_toArray, List.set_cons_zero, List.set_cons_succ]
  refine' take_U (i := 3) (d := 20) (v := _) rfl rfl (by kernel_rfl) (by kernel_rfl) (by kernel_rfl) (by kernel_rfl) (by kernel_rfl) (by kernel_rfl) (fun _ _ _ h => h) (Or.inl ⟨by rfl, ?h3⟩) (HSX.out) ?_
  case h3 => intro w hSw; go_simp; with_reducible rfl
  simp only [List.setIfInBounds_toArray, List.set_cons_zero, List.set_cons_succ]
  refine' take_U (i := 4) (d := 21) (v := _) rfl rfl (by kernel_rfl) (by kernel_rfl) (by kernel_rfl) (by kernel_rfl) (by kernel_rfl) (by kernel_rfl) (fun _ _ _ h => h) (Or.inl ⟨by rfl, ?h4⟩) (HSX.out) ?_
  case h4 => intro w hSw; go_simp; with_reducible rfl
  simp only [List.setIfInBounds_toArray, List.set_cons_zero, List.set_cons_succ]
  refine' take_U (i := 6) (d := 23) (v := _) rfl rfl (by kernel_rfl) (by kernel_rfl) (by kernel_rfl) (by kernel_rfl) (by kernel_rfl) (by kernel_rfl) (fun _ _ _ h => h) (Or.inl ⟨by rfl, ?h6⟩) (HSX.out) ?_
  case h6 => intro w hSw; go_simp; with_reducible rfl
  simp only [List.setIfInBounds_toArray, List.set_cons_zero, List.set_cons_succ]
  refine' take_U (i := 9) (d := 26) (v := _) rfl rfl (by kernel_rfl) (by kernel_rfl) (by kernel_rfl) (by kernel_rfl) (by kernel_rfl) (by kernel_rfl) (fun _ _ _ h => h) (Or.inl ⟨by rfl, ?h9⟩) (HSX.out) ?_
  case h9 => intro w hSw; go_simp; with_reducible rfl
  simp only [List.setIfInBounds_toArray, List.set_cons_zero, List.set_cons_succ]
  refine' take_U (i := 10) (d := 27) (v := _) rfl rfl (by kernel_rfl) (by kernel_rfl) (by kernel_rfl) (by kernel_rfl) (by kernel_rfl) (by kernel_rfl) (fun _ _ _ h => h) (Or.inl ⟨by rfl, ?h10⟩) (HSX.out) ?_
  case h10 => intro w hSw; go_simp; with_reducible rfl
  simp only [List.setIfInBounds_toArray, List.set_cons_zero, List.set_cons_succ]
  refine' take_U (i := 11) (d := 28) (v := _) rfl rfl (by kernel_rfl) (by kernel_rfl) (by kernel_rfl) (by kernel_rfl) (by kernel_rfl) (by kernel_rfl) (fun _ _ _ h => h) (Or.inl ⟨by rfl, ?h11⟩) (HSX.out) ?_
  case h11 => intro w hSw; go_simp; with_reducible rfl
  simp only [List.setIfInBounds_toArray, List.set_cons_zero, List.set_cons_succ]
  refine' take_U (i := 12) (d := 29) (v := _) rfl rfl (by kernel_rfl) (by kernel_rfl) (by kernel_rfl) (by kernel_rfl) (by kernel_rfl) (by kernel_rfl) (fun _ _ _ h => h) (Or.inl ⟨by rfl, ?h12⟩) (HSX.out) ?_
  case h12 => intro w hSw; go_simp; with_reducible rfl
  simp only [List.setIfInBounds_toArray, List.set_cons_zero, List.set_cons_succ]
  have HB0 : Hid (Below wX.heap.size wX wX) := Below.refl _ _
  refine wpAnyU_ready (rs := [0, 7]) (by kernel_rfl) (by simp) ?_
  refine AllReadyU.cons (o := _) rfl (fun K hK => ?_) (AllReadyU.cons (o := _) rfl (fun K hK => ?_) AllReadyU.nil)
  · go_simp
    obtain ⟨q0, hqq⟩ : ∃ z, z = wX.heap.size := ⟨_, rfl⟩
    rw [← hqq]
    have HB1 : Hid (Below wX.heap.size wX (wX.alloc (.cells #[] 9))) := HB0.out.alloc HB0.out.size _
    have HO1 : Hid ((wX.alloc (.cells #[] 9)).ownsRow wX.heap.size 9 1 (.slice (some ⟨q0, 0, none⟩) 0 0) ([] : List ByteArray).length (sc [])) := by rw [hqq]; exact World.ownsRow_made wX #[] 0 HB0.out.size (by decide) rfl
    clear hqq
    generalize wX.alloc (.cells #[] 9) = wY1 at *
    refine hK.out _ _ (fun _ _ => (HC.out _ HB1.out)) ?_
    clear hK K
    refine wpAnyU_ready (rs := [5, 7]) (by kernel_rfl) (by simp) ?_
    refine AllReadyU.cons (o := _) rfl (fun K hK => ?_) (AllReadyU.cons (o := _) rfl (fun K hK => ?_) AllReadyU.nil)
    · refine wp_strs _ _ rfl wX.heap.size (.slice (some ⟨q0, 0, none⟩) 0 0) (.slice (none) k c) [] (n.names.take k) wY1 rfl rfl HO1.out HB1.out.size (HSRC.out.1 _ HB1.out) (by have := HM.out; simp only [List.length_nil, List.length_take]; omega) ?_
      intro v34 wY2 ho hb hg
      rw [List.nil_append] at ho
      have HO2 : Hid (wY2.ownsRow wX.heap.size 9 1 v34 (n.names.take k).length (sc (n.names.take k))) := ho
      have HB2 : Hid (Below wX.heap.size wX wY2) := HB1.out.trans (hb.mono (Nat.le_refl _))
      obtain ⟨a34, c34, hv34, _⟩ := row_form ho
      obtain ⟨n34, hn34⟩ : ∃ z, z = (n.names.take k).length := ⟨_, rfl⟩
      rw [← hn34] at hv34
      subst hv34
      clear ho hb hg hn34
      go_simp
      refine hK.out _ _ (fun _ _ => (HC.out _ HB2.out)) ?_
      clear hK K
      refine wpAnyU_ready (rs := [7]) (by kernel_rfl) (by simp) ?_
      refine AllReadyU.cons (o := _) rfl (fun K hK => ?_) AllReadyU.nil
      go_simp
      obtain ⟨qx, hqx⟩ : ∃ z, z = wY2.heap.size := ⟨_, rfl⟩
      rw [← hqx]
      have HB3 : Hid (Below wX.heap.size wX (wY2.alloc (.cells #[.string s] 9))) := HB2.out.alloc HB2.out.size _
      have HS3 : Hid (Src (wY2.alloc (.cells #[.string s] 9)) (.slice (some ⟨qx, 0, none⟩) 1 1) [s]) := by rw [hqx]; exact Src.one wY2 s _
      have HQ3 : Hid (qx < (wY2.alloc (.cells #[.string s] 9)).heap.size) := by
        have e : qx < (wY2.alloc (.cells #[.string s] 9)).heap.size := by rw [hqx]; simp
        exact e
      have HO3 : Hid ((wY2.alloc (.cells #[.string s] 9)).ownsRow wX.heap.size 9 1 (.slice a34 n34 c34) (n.names.take k).length (sc (n.names.take k))) := HO2.out.alloc _
      clear hqx
      generalize wY2.alloc (.cells #[.string s] 9) = wY3 at *
      refine hK.out _ _ (fun _ _ => (HC.out _ HB3.out)) ?_
      clear hK K
      refine wpAnyU_ready (rs := [8]) (by kernel_rfl) (by simp) ?_
      refine AllReadyU.cons (o := _) rfl (fun K hK => ?_) AllReadyU.nil
      refine wp_strs _ _ rfl wX.heap.size (.slice a34 n34 c34) (.slice (some ⟨qx, 0, none⟩) 1 1) (n.names.take k) [s] wY3 rfl rfl HO3.out HB3.out.size HS3.out (by have := HM.out; simp only [List.length_singleton, List.length_take]; omega) ?_
      intro v35 wY4 ho hb hg
      have HO5 : Hid (wY4.ownsRow wX.heap.size 9 1 v35 (n.names.take k ++ [s]).length (sc (n.names.take k ++ [s]))) := ho
      have HB5 : Hid (Below wX.heap.size wX wY4) := HB3.out.trans (hb.mono (Nat.le_refl _))
      obtain ⟨a35, c35, hv35, _⟩ := row_form ho
      obtain ⟨n35, hn35⟩ : ∃ z, z = (n.names.take k ++ [s]).length := ⟨_, rfl⟩
      rw [← hn35] at hv35
      subst hv35
      clear ho hb hg hn35
      go_simp
      refine hK.out _ _ (fun _ _ => (HC.out _ HB5.out)) ?_
      clear hK K
      refine wpAnyU_ready (rs := [13]) (by kernel_rfl) (by simp) ?_
      refine AllReadyU.cons (o := _) rfl (fun K hK => ?_) AllReadyU.nil
      refine wp_strs _ _ rfl wX.heap.size (.slice a35 n35 c35) (.slice none (N - k) (c - k)) (n.names.take k ++ [s]) (n.names.drop k) wY4 rfl rfl HO5.out HB5.out.size (HSRC.out.2 _ HB5.out) (by have := HM.out; simp only [List.length_append, List.length_singleton, List.length_drop, List.length_take]; omega) ?_
      intro v42 wY5 ho hb hg
      have HO4 : Hid (wY5.ownsRow wX.heap.size 9 1 v42 (n.names.take k ++ [s] ++ n.names.drop k).length (sc (n.names.take k ++ [s] ++ n.names.drop k))) := ho
      have HB4 : Hid (Below wX.heap.size wX wY5) := HB5.out.trans (hb.mono (Nat.le_refl _))
      obtain ⟨a42, c42, hv42, _⟩ := row_form ho
      obtain ⟨n42, hn42⟩ : ∃ z, z = (n.names.take k ++ [s] ++ n.names.drop k).length := ⟨_, rfl⟩
      have HN42 : Hid (n42 = (n.names.take k ++ [s] ++ n.names.drop k).length) := hn42
      rw [← hn42] at hv42
      subst hv42
      clear ho hb hg hn42
      have HN3 : Hid (Cb wY5 w.heap.size (k10 n (.slice (none) N c)) 40) := HN.out.below HB4.out
      have HZ3 : Hid (Cb wY5 (w.heap.size + 1) (k10 Kq.zero (.slice none 0 0)) 40) := HZ.out.below HB4.out
      have HQ4 : Hid (wY5.cell? ⟨w.heap.size, 9, none⟩ = some (.slice (none) N c) ∧ wY5.frozen? ⟨w.heap.size, 9, none⟩ = false) := ⟨HC.out _ HB4.out, HN3.out.free 9⟩
      go_simp
      refine hK.out _ _ (fun _ _ => HQ4.out.1) ?_
      clear hK K
      refine' take_U (i := 14) (d := 31) (v := _) rfl rfl (by kernel_rfl) (by kernel_rfl) (by kernel_rfl) (by kernel_rfl) (by kernel_rfl) (by kernel_rfl) (fun _ _ _ h => h) (Or.inl ⟨by rfl, ?h14⟩) (HQ4.out.1) ?_
      case h14 => intro w hSw; go_simp; with_reducible rfl
      simp only [List.setIfInBounds_toArray, List.set_cons_zero, List.set_cons_succ]
      refine wpAnyU_ready (rs := [15]) (by kernel_rfl) (by simp) ?_
      refine AllReadyU.cons (o := _) rfl (fun K hK => ?_) AllReadyU.nil
      have hc := HQ4.out.1
      have hz := HQ4.out.2
      go_simp
      clear hc hz
      refine hK.out _ _ (fun h => absurd (by decide) h) ?_
      clear hK K
      refine wpAnyU_done (by kernel_rfl) ?_ _
      have HNz : Hid (Cb (wY5.setCell ⟨w.heap.size, 9, none⟩ (.slice a42 n42 c42)) w.heap.size (k10 n (.slice a42 n42 c42)) 40) := HN3.out.set 9 _
      have HZz : Hid (Cb (wY5.setCell ⟨w.heap.size, 9, none⟩ (.slice a42 n42 c42)) (w.heap.size + 1) (k10 Kq.zero (.slice none 0 0)) 40) := HZ3.out.keep (RowKit.Below.heap_setCell _ _ _ _ (by show w.heap.size + 1 ≠ w.heap.size; omega))
      have HRz : Hid ((wY5.setCell ⟨w.heap.size, 9, none⟩ (.slice a42 n42 c42)).ownsRow wX.heap.size 9 1 (.slice a42 n42 c42) (n.names.take k ++ [s] ++ n.names.drop k).length (sc (n.names.take k ++ [s] ++ n.names.drop k))) := row_stays HO4.out (fun x hx => RowKit.Below.heap_setCell _ _ _ _ (fun e => by have h1 := (HO4.out.lt x hx).1; have h2 := HWX.out; have h3 : x = w.heap.size := e; omega))
      have HBz : Hid (Below w.heap.size w (wY5.setCell ⟨w.heap.size, 9, none⟩ (.slice a42 n42 c42))) := (HBX.out.trans (HB4.out.mono HBX.out.size)).grown (grownBy_setCell _ _ _) (HBX.out.trans (HB4.out.mono HBX.out.size)).size (fun x hx => by simp at hx; omega)
      generalize wY5.setCell ⟨w.heap.size, 9, none⟩ (.slice a42 n42 c42) = wz at *
      clear HSRC
      obtain ⟨c0, c1, c2, c3, c4, c5, c6, c7, c8, c9⟩ := ten_cells HNz.out
      obtain ⟨z0, z1, z2, z3, z4, z5, z6, z7, z8, z9⟩ := ten_cells HZz.out
      have f0 := HZz.out.free 0
      have f1 := HZz.out.free 1
      have f2 := HZz.out.free 2
      have f3 := HZz.out.free 3
      have f4 := HZz.out.free 4
      have f5 := HZz.out.free 5
      have f6 := HZz.out.free 6
      have f7 := HZz.out.free 7
      have f8 := HZz.out.free 8
      have f9 := HZz.out.free 9
      have e0 := HNz.out.free 0
      have e1 := HNz.out.free 1
      have e2 := HNz.out.free 2
      have e3 := HNz.out.free 3
      have e4 := HNz.out.free 4
      have e5 := HNz.out.free 5
      have e6 := HNz.out.free 6
      have e7 := HNz.out.free 7
      have e8 := HNz.out.free 8
      have e9 := HNz.out.free 9
      go_wp2_with fail
      refine (refMore_any n.kids _ HK.out.1).mono ?_
      rintro e w5 ⟨rfl, hw5⟩
      rw [hw5]
      clear hw5 w5
      go_wp2_with fail
      refine (refMore_any n.next _ HK.out.2).mono ?_
      rintro e w5 ⟨rfl, hw5⟩
      rw [hw5]
      clear hw5 w5
      go_wp2_with fail
      have hg1 : wz.grownBy (((wz.setCell ⟨w.heap.size, 3, none⟩ (.int .i64 (Kq.more n.kids))).setCell ⟨w.heap.size, 6, none⟩ (.int .i64 (n42 : Int))).setCell ⟨w.heap.size, 8, none⟩ (.int .i64 (Kq.more n.next))) (some w.heap.size) := (grown_set (grown_set (grown_set ⟨rfl, rfl, rfl, Nat.le_refl _, fun _ _ _ => rfl⟩ _) _) _)
      have hg2 := put10_grown (((wz.setCell ⟨w.heap.size, 3, none⟩ (.int .i64 (Kq.more n.kids))).setCell ⟨w.heap.size, 6, none⟩ (.int .i64 (n42 : Int))).setCell ⟨w.heap.size, 8, none⟩ (.int .i64 (Kq.more n.next))) (w.heap.size + 1) ({ n with kids := Kq.more n.kids, cnt := (n42 : Int), next := Kq.more n.next } : Kq.Kn) (.slice a42 n42 c42)
      have HX : Hid (Cb (put10 (((wz.setCell ⟨w.heap.size, 3, none⟩ (.int .i64 (Kq.more n.kids))).setCell ⟨w.heap.size, 6, none⟩ (.int .i64 (n42 : Int))).setCell ⟨w.heap.size, 8, none⟩ (.int .i64 (Kq.more n.next))) (w.heap.size + 1) ({ n with kids := Kq.more n.kids, cnt := (n42 : Int), next := Kq.more n.next } : Kq.Kn) (.slice a42 n42 c42)) (w.heap.size + 1) (k10 ({ n with kids := Kq.more n.kids, cnt := (n42 : Int), next := Kq.more n.next } : Kq.Kn) (.slice a42 n42 c42)) 40) := put10_cb (HZz.out.keep (hg1.block _ HZz.out.lt (fun e => by simp at e)))
      have HBX2 : Hid (Below w.heap.size w (put10 (((wz.setCell ⟨w.heap.size, 3, none⟩ (.int .i64 (Kq.more n.kids))).setCell ⟨w.heap.size, 6, none⟩ (.int .i64 (n42 : Int))).setCell ⟨w.heap.size, 8, none⟩ (.int .i64 (Kq.more n.next))) (w.heap.size + 1) ({ n with kids := Kq.more n.kids, cnt := (n42 : Int), next := Kq.more n.next } : Kq.Kn) (.slice a42 n42 c42))) := (HBz.out.grown hg1 HBz.out.size (fun k hk => by simp at hk; omega)).grown hg2 (Nat.le_trans HBz.out.size hg1.size) (fun k hk => by simp at hk; omega)
      have HRX : Hid ((put10 (((wz.setCell ⟨w.heap.size, 3, none⟩ (.int .i64 (Kq.more n.kids))).setCell ⟨w.heap.size, 6, none⟩ (.int .i64 (n42 : Int))).setCell ⟨w.heap.size, 8, none⟩ (.int .i64 (Kq.more n.next))) (w.heap.size + 1) ({ n with kids := Kq.more n.kids, cnt := (n42 : Int), next := Kq.more n.next } : Kq.Kn) (.slice a42 n42 c42)).ownsRow wX.heap.size 9 1 (.slice a42 n42 c42) (n.names.take k ++ [s] ++ n.names.drop k).length (sc (n.names.take k ++ [s] ++ n.names.drop k))) := row_stays HRz.out (fun x hx => by
        have h1 := HRz.out.lt x hx
        have h2 := HWX.out
        rw [hg2.block x (Nat.lt_of_lt_of_le h1.2 hg1.size) (fun e => by simp at e; omega), hg1.block x h1.2 (fun e => by simp at e; omega)])
      unfold put10 at HX HBX2 HRX
      simp only [] at HX HBX2 HRX
      clear hg1 hg2
      generalize (((((((((((((wz.setCell ⟨w.heap.size, 3, none⟩ (.int .i64 (Kq.more n.kids))).setCell ⟨w.heap.size, 6, none⟩ (.int .i64 (n42 : Int))).setCell ⟨w.heap.size, 8, none⟩ (.int .i64 (Kq.more n.next))).setCell ⟨w.heap.size + 1, 0, none⟩ (.int .i64 n.made)).setCell ⟨w.heap.size + 1, 1, none⟩ (.int .i64 n.changed)).setCell ⟨w.heap.size + 1, 2, none⟩ (.int .i64 n.ver)).setCell ⟨w.heap.size + 1, 3, none⟩ (.int .i64 (Kq.more n.kids))).setCell ⟨w.heap.size + 1, 4, none⟩ (.int .i64 n.owner)).setCell ⟨w.heap.size + 1, 5, none⟩ (.int .i64 n.len)).setCell ⟨w.heap.size + 1, 6, none⟩ (.int .i64 (n42 : Int))).setCell ⟨w.heap.size + 1, 7, none⟩ (.string n.data)).setCell ⟨w.heap.size + 1, 8, none⟩ (.int .i64 (Kq.more n.next))).setCell ⟨w.heap.size + 1, 9, none⟩ (.slice a42 n42 c42)) = wy at *
      clear c0 c1 c2 c3 c4 c5 c6 c7 c8 c9 z0 z1 z2 z3 z4 z5 z6 z7 z8 z9 f0 f1 f2 f3 f4 f5 f6 f7 f8 f9 e0 e1 e2 e3 e4 e5 e6 e7 e8 e9
      refine bodyPost_ret (v := .tuple #[.agg #[.int .i64 n.made, .int .i64 n.changed, .int .i64 n.ver, .int .i64 (Kq.more n.kids), .int .i64 n.owner, .int .i64 n.len, .int .i64 (n42 : Int), .string n.data, .int .i64 (Kq.more n.next), .slice a42 n42 c42], .bool true]) ?_ rfl ?_
      · obtain ⟨c0, c1, c2, c3, c4, c5, c6, c7, c8, c9⟩ := ten_cells HX.out
        simp only [] at c0 c1 c2 c3 c4 c5 c6 c7 c8 c9
        rw [results_cell_tmp rfl]
        go_simp
      · have e : (n42 : Int) = ((n.names.length + 1 : Nat) : Int) := by
          have h1 := HN42.out
          have h2 := HM.out
          rw [List.length_append, List.length_append, List.length_take, List.length_drop, List.length_singleton] at h1
          omega
        refine ⟨a42, n42, c42, ?_, ?_, fun x hx => (by have h1 := (HRX.out.lt x hx).1; have h2 := HWX.out; omega), HBX2.out⟩
        · rw [HADD.out, e]
        · rw [HADD.out]
          have e2 := Nm.of_row HRX.out
          exact e2
    · go_simp
      obtain ⟨qx, hqx⟩ : ∃ z, z = wY1.heap.size := ⟨_, rfl⟩
      rw [← hqx]
      have HB2 : Hid (Below wX.heap.size wX (wY1.alloc (.cells #[.string s] 9))) := HB1.out.alloc HB1.out.size _
      have HS2 : Hid (Src (wY1.alloc (.cells #[.string s] 9)) (.slice (some ⟨qx, 0, none⟩) 1 1) [s]) := by rw [hqx]; exact Src.one wY1 s _
      have HQ2 : Hid (qx < (wY1.alloc (.cells #[.string s] 9)).heap.size) := by
        have e : qx < (wY1.alloc (.cells #[.string s] 9)).heap.size := by rw [hqx]; simp
        exact e
      have HO2 : Hid ((wY1.alloc (.cells #[.string s] 9)).ownsRow wX.heap.size 9 1 (.slice (some ⟨q0, 0, none⟩) 0 0) ([] : List ByteArray).length (sc [])) := HO1.out.alloc _
      have HNE : Hid (q0 ≠ qx) := by
        have e := (HO1.out.lt q0 rfl).2
        have e2 : q0 ≠ qx := by omega
        exact e2
      clear hqx
      generalize wY1.alloc (.cells #[.string s] 9) = wY2 at *
      refine hK.out _ _ (fun _ _ => (HC.out _ HB2.out)) ?_
      clear hK K
      refine wpAnyU_ready (rs := [5]) (by kernel_rfl) (by simp) ?_
      refine AllReadyU.cons (o := _) rfl (fun K hK => ?_) AllReadyU.nil
      refine wp_strs _ _ rfl wX.heap.size (.slice (some ⟨q0, 0, none⟩) 0 0) (.slice (none) k c) [] (n.names.take k) wY2 rfl rfl HO2.out HB2.out.size (HSRC.out.1 _ HB2.out) (by have := HM.out; simp only [List.length_nil, List.length_take]; omega) ?_
      intro v34 wY3 ho hb hg
      rw [List.nil_append] at ho
      have HO3 : Hid (wY3.ownsRow wX.heap.size 9 1 v34 (n.names.take k).length (sc (n.names.take k))) := ho
      have HB3 : Hid (Below wX.heap.size wX wY3) := HB2.out.trans (hb.mono (Nat.le_refl _))
      have HS3 : Hid (Src wY3 (.slice (some ⟨qx, 0, none⟩) 1 1) [s]) := HS2.out.grown hg (fun e => HNE.out (by simpa [Value.ownBlock] using e))
      obtain ⟨a34, c34, hv34, _⟩ := row_form ho
      obtain ⟨n34, hn34⟩ : ∃ z, z = (n.names.take k).length := ⟨_, rfl⟩
      rw [← hn34] at hv34
      subst hv34
      clear ho hb hg hn34
      go_simp
      refine hK.out _ _ (fun _ _ => (HC.out _ HB3.out)) ?_
      clear hK K
      refine wpAnyU_ready (rs := [8]) (by kernel_rfl) (by simp) ?_
      refine AllReadyU.cons (o := _) rfl (fun K hK => ?_) AllReadyU.nil
      refine wp_strs _ _ rfl wX.heap.size (.slice a34 n34 c34) (.slice (some ⟨qx, 0, none⟩) 1 1) (n.names.take k) [s] wY3 rfl rfl HO3.out HB3.out.size HS3.out (by have := HM.out; simp only [List.length_singleton, List.length_take]; omega) ?_
      intro v35 wY4 ho hb hg
      have HO5 : Hid (wY4.ownsRow wX.heap.size 9 1 v35 (n.names.take k ++ [s]).length (sc (n.names.take k ++ [s]))) := ho
      have HB5 : Hid (Below wX.heap.size wX wY4) := HB3.out.trans (hb.mono (Nat.le_refl _))
      obtain ⟨a35, c35, hv35, _⟩ := row_form ho
      obtain ⟨n35, hn35⟩ : ∃ z, z = (n.names.take k ++ [s]).length := ⟨_, rfl⟩
      rw [← hn35] at hv35
      subst hv35
      clear ho hb hg hn35
      go_simp
      refine hK.out _ _ (fun _ _ => (HC.out _ HB5.out)) ?_
      clear hK K
      refine wpAnyU_ready (rs := [13]) (by kernel_rfl) (by simp) ?_
      refine AllReadyU.cons (o := _) rfl (fun K hK => ?_) AllReadyU.nil
      refine wp_strs _ _ rfl wX.heap.size (.slice a35 n35 c35) (.slice none (N - k) (c - k)) (n.names.take k ++ [s]) (n.names.drop k) wY4 rfl rfl HO5.out HB5.out.size (HSRC.out.2 _ HB5.out) (by have := HM.out; simp only [List.length_append, List.length_singleton, List.length_drop, List.length_take]; omega) ?_
      intro v42 wY5 ho hb hg
      have HO4 : Hid (wY5.ownsRow wX.heap.size 9 1 v42 (n.names.take k ++ [s] ++ n.names.drop k).length (sc (n.names.take k ++ [s] ++ n.names.drop k))) := ho
      have HB4 : Hid (Below wX.heap.size wX wY5) := HB5.out.trans (hb.mono (Nat.le_refl _))
      obtain ⟨a42, c42, hv42, _⟩ := row_form ho
      obtain ⟨n42, hn42⟩ : ∃ z, z = (n.names.take k ++ [s] ++ n.names.drop k).length := ⟨_, rfl⟩
      have HN42 : Hid (n42 = (n.names.take k ++ [s] ++ n.names.drop k).length) := hn42
      rw [← hn42] at hv42
      subst hv42
      clear ho hb hg hn42
      have HN3 : Hid (Cb wY5 w.heap.size (k10 n (.slice (none) N c)) 40) := HN.out.below HB4.out
      have HZ3 : Hid (Cb wY5 (w.heap.size + 1) (k10 Kq.zero (.slice none 0 0)) 40) := HZ.out.below HB4.out
      have HQ4 : Hid (wY5.cell? ⟨w.heap.size, 9, none⟩ = some (.slice (none) N c) ∧ wY5.frozen? ⟨w.heap.size, 9, none⟩ = false) := ⟨HC.out _ HB4.out, HN3.out.free 9⟩
      go_simp
      refine hK.out _ _ (fun _ _ => HQ4.out.1) ?_
      clear hK K
      refine' take_U (i := 14) (d := 31) (v := _) rfl rfl (by kernel_rfl) (by kernel_rfl) (by kernel_rfl) (by kernel_rfl) (by kernel_rfl) (by kernel_rfl) (fun _ _ _ h => h) (Or.inl ⟨by rfl, ?h14⟩) (HQ4.out.1) ?_
      case h14 => intro w hSw; go_simp; with_reducible rfl
      simp only [List.setIfInBounds_toArray, List.set_cons_zero, List.set_cons_succ]
      refine wpAnyU_ready (rs := [15]) (by kernel_rfl) (by simp) ?_
      refine AllReadyU.cons (o := _) rfl (fun K hK => ?_) AllReadyU.nil
      have hc := HQ4.out.1
      have hz := HQ4.out.2
      go_simp
      clear hc hz
      refine hK.out _ _ (fun h => absurd (by decide) h) ?_
      clear hK K
      refine wpAnyU_done (by kernel_rfl) ?_ _
      have HNz : Hid (Cb (wY5.setCell ⟨w.heap.size, 9, none⟩ (.slice a42 n42 c42)) w.heap.size (k10 n (.slice a42 n42 c42)) 40) := HN3.out.set 9 _
      have HZz : Hid (Cb (wY5.setCell ⟨w.heap.size, 9, none⟩ (.slice a42 n42 c42)) (w.heap.size + 1) (k10 Kq.zero (.slice none 0 0)) 40) := HZ3.out.keep (RowKit.Below.heap_setCell _ _ _ _ (by show w.heap.size + 1 ≠ w.heap.size; omega))
      have HRz : Hid ((wY5.setCell ⟨w.heap.size, 9, none⟩ (.slice a42 n42 c42)).ownsRow wX.heap.size 9 1 (.slice a42 n42 c42) (n.names.take k ++ [s] ++ n.names.drop k).length (sc (n.names.take k ++ [s] ++ n.names.drop k))) := row_stays HO4.out (fun x hx => RowKit.Below.heap_setCell _ _ _ _ (fun e => by have h1 := (HO4.out.lt x hx).1; have h2 := HWX.out; have h3 : x = w.heap.size := e; omega))
      have HBz : Hid (Below w.heap.size w (wY5.setCell ⟨w.heap.size, 9, none⟩ (.slice a42 n42 c42))) := (HBX.out.trans (HB4.out.mono HBX.out.size)).grown (grownBy_setCell _ _ _) (HBX.out.trans (HB4.out.mono HBX.out.size)).size (fun x hx => by simp at hx; omega)
      generalize wY5.setCell ⟨w.heap.size, 9, none⟩ (.slice a42 n42 c42) = wz at *
      clear HSRC
      obtain ⟨c0, c1, c2, c3, c4, c5, c6, c7, c8, c9⟩ := ten_cells HNz.out
      obtain ⟨z0, z1, z2, z3, z4, z5, z6, z7, z8, z9⟩ := ten_cells HZz.out
      have f0 := HZz.out.free 0
      have f1 := HZz.out.free 1
      have f2 := HZz.out.free 2
      have f3 := HZz.out.free 3
      have f4 := HZz.out.free 4
      have f5 := HZz.out.free 5
      have f6 := HZz.out.free 6
      have f7 := HZz.out.free 7
      have f8 := HZz.out.free 8
      have f9 := HZz.out.free 9
      have e0 := HNz.out.free 0
      have e1 := HNz.out.free 1
      have e2 := HNz.out.free 2
      have e3 := HNz.out.free 3
      have e4 := HNz.out.free 4
      have e5 := HNz.out.free 5
      have e6 := HNz.out.free 6
      have e7 := HNz.out.free 7
      have e8 := HNz.out.free 8
      have e9 := HNz.out.free 9
      go_wp2_with fail
      refine (refMore_any n.kids _ HK.out.1).mono ?_
      rintro e w5 ⟨rfl, hw5⟩
      rw [hw5]
      clear hw5 w5
      go_wp2_with fail
      refine (refMore_any n.next _ HK.out.2).mono ?_
      rintro e w5 ⟨rfl, hw5⟩
      rw [hw5]
      clear hw5 w5
      go_wp2_with fail
      have hg1 : wz.grownBy (((wz.setCell ⟨w.heap.size, 3, none⟩ (.int .i64 (Kq.more n.kids))).setCell ⟨w.heap.size, 6, none⟩ (.int .i64 (n42 : Int))).setCell ⟨w.heap.size, 8, none⟩ (.int .i64 (Kq.more n.next))) (some w.heap.size) := (grown_set (grown_set (grown_set ⟨rfl, rfl, rfl, Nat.le_refl _, fun _ _ _ => rfl⟩ _) _) _)
      have hg2 := put10_grown (((wz.setCell ⟨w.heap.size, 3, none⟩ (.int .i64 (Kq.more n.kids))).setCell ⟨w.heap.size, 6, none⟩ (.int .i64 (n42 : Int))).setCell ⟨w.heap.size, 8, none⟩ (.int .i64 (Kq.more n.next))) (w.heap.size + 1) ({ n with kids := Kq.more n.kids, cnt := (n42 : Int), next := Kq.more n.next } : Kq.Kn) (.slice a42 n42 c42)
      have HX : Hid (Cb (put10 (((wz.setCell ⟨w.heap.size, 3, none⟩ (.int .i64 (Kq.more n.kids))).setCell ⟨w.heap.size, 6, none⟩ (.int .i64 (n42 : Int))).setCell ⟨w.heap.size, 8, none⟩ (.int .i64 (Kq.more n.next))) (w.heap.size + 1) ({ n with kids := Kq.more n.kids, cnt := (n42 : Int), next := Kq.more n.next } : Kq.Kn) (.slice a42 n42 c42)) (w.heap.size + 1) (k10 ({ n with kids := Kq.more n.kids, cnt := (n42 : Int), next := Kq.more n.next } : Kq.Kn) (.slice a42 n42 c42)) 40) := put10_cb (HZz.out.keep (hg1.block _ HZz.out.lt (fun e => by simp at e)))
      have HBX2 : Hid (Below w.heap.size w (put10 (((wz.setCell ⟨w.heap.size, 3, none⟩ (.int .i64 (Kq.more n.kids))).setCell ⟨w.heap.size, 6, none⟩ (.int .i64 (n42 : Int))).setCell ⟨w.heap.size, 8, none⟩ (.int .i64 (Kq.more n.next))) (w.heap.size + 1) ({ n with kids := Kq.more n.kids, cnt := (n42 : Int), next := Kq.more n.next } : Kq.Kn) (.slice a42 n42 c42))) := (HBz.out.grown hg1 HBz.out.size (fun k hk => by simp at hk; omega)).grown hg2 (Nat.le_trans HBz.out.size hg1.size) (fun k hk => by simp at hk; omega)
      have HRX : Hid ((put10 (((wz.setCell ⟨w.heap.size, 3, none⟩ (.int .i64 (Kq.more n.kids))).setCell ⟨w.heap.size, 6, none⟩ (.int .i64 (n42 : Int))).setCell ⟨w.heap.size, 8, none⟩ (.int .i64 (Kq.more n.next))) (w.heap.size + 1) ({ n with kids := Kq.more n.kids, cnt := (n42 : Int), next := Kq.more n.next } : Kq.Kn) (.slice a42 n42 c42)).ownsRow wX.heap.size 9 1 (.slice a42 n42 c42) (n.names.take k ++ [s] ++ n.names.drop k).length (sc (n.names.take k ++ [s] ++ n.names.drop k))) := row_stays HRz.out (fun x hx => by
        have h1 := HRz.out.lt x hx
        have h2 := HWX.out
        rw [hg2.block x (Nat.lt_of_lt_of_le h1.2 hg1.size) (fun e => by simp at e; omega), hg1.block x h1.2 (fun e => by simp at e; omega)])
      unfold put10 at HX HBX2 HRX
      simp only [] at HX HBX2 HRX
      clear hg1 hg2
      generalize (((((((((((((wz.setCell ⟨w.heap.size, 3, none⟩ (.int .i64 (Kq.more n.kids))).setCell ⟨w.heap.size, 6, none⟩ (.int .i64 (n42 : Int))).setCell ⟨w.heap.size, 8, none⟩ (.int .i64 (Kq.more n.next))).setCell ⟨w.heap.size + 1, 0, none⟩ (.int .i64 n.made)).setCell ⟨w.heap.size + 1, 1, none⟩ (.int .i64 n.changed)).setCell ⟨w.heap.size + 1, 2, none⟩ (.int .i64 n.ver)).setCell ⟨w.heap.size + 1, 3, none⟩ (.int .i64 (Kq.more n.kids))).setCell ⟨w.heap.size + 1, 4, none⟩ (.int .i64 n.owner)).setCell ⟨w.heap.size + 1, 5, none⟩ (.int .i64 n.len)).setCell ⟨w.heap.size + 1, 6, none⟩ (.int .i64 (n42 : Int))).setCell ⟨w.heap.size + 1, 7, none⟩ (.string n.data)).setCell ⟨w.heap.size + 1, 8, none⟩ (.int .i64 (Kq.more n.next))).setCell ⟨w.heap.size + 1, 9, none⟩ (.slice a42 n42 c42)) = wy at *
      clear c0 c1 c2 c3 c4 c5 c6 c7 c8 c9 z0 z1 z2 z3 z4 z5 z6 z7 z8 z9 f0 f1 f2 f3 f4 f5 f6 f7 f8 f9 e0 e1 e2 e3 e4 e5 e6 e7 e8 e9
      refine bodyPost_ret (v := .tuple #[.agg #[.int .i64 n.made, .int .i64 n.changed, .int .i64 n.ver, .int .i64 (Kq.more n.kids), .int .i64 n.owner, .int .i64 n.len, .int .i64 (n42 : Int), .string n.data, .int .i64 (Kq.more n.next), .slice a42 n42 c42], .bool true]) ?_ rfl ?_
      · obtain ⟨c0, c1, c2, c3, c4, c5, c6, c7, c8, c9⟩ := ten_cells HX.out
        simp only [] at c0 c1 c2 c3 c4 c5 c6 c7 c8 c9
        rw [results_cell_tmp rfl]
        go_simp
      · have e : (n42 : Int) = ((n.names.length + 1 : Nat) : Int) := by
          have h1 := HN42.out
          have h2 := HM.out
          rw [List.length_append, List.length_append, List.length_take, List.length_drop, List.length_singleton] at h1
          omega
        refine ⟨a42, n42, c42, ?_, ?_, fun x hx => (by have h1 := (HRX.out.lt x hx).1; have h2 := HWX.out; omega), HBX2.out⟩
        · rw [HADD.out, e]
        · rw [HADD.out]
          have e2 := Nm.of_row HRX.out
          exact e2
  · go_simp
    obtain ⟨qx, hqx⟩ : ∃ z, z = wX.heap.size := ⟨_, rfl⟩
    rw [← hqx]
    have HB1 : Hid (Below wX.heap.size wX (wX.alloc (.cells #[.string s] 9))) := HB0.out.alloc HB0.out.size _
    have HS1 : Hid (Src (wX.alloc (.cells #[.string s] 9)) (.slice (some ⟨qx, 0, none⟩) 1 1) [s]) := by rw [hqx]; exact Src.one wX s _
    have HQ1 : Hid (qx < (wX.alloc (.cells #[.string s] 9)).heap.size) := by
      have e : qx < (wX.alloc (.cells #[.string s] 9)).heap.size := by rw [hqx]; simp
      exact e
    clear hqx
    generalize wX.alloc (.cells #[.string s] 9) = wY1 at *
    refine hK.out _ _ (fun _ _ => (HC.out _ HB1.out)) ?_
    clear hK K
    refine wpAnyU_ready (rs := [0]) (by kernel_rfl) (by simp) ?_
    refine AllReadyU.cons (o := _) rfl (fun K hK => ?_) AllReadyU.nil
    go_simp
    obtain ⟨q0, hqq⟩ : ∃ z, z = wY1.heap.size := ⟨_, rfl⟩
    rw [← hqq]
    have HB2 : Hid (Below wX.heap.size wX (wY1.alloc (.cells #[] 9))) := HB1.out.alloc HB1.out.size _
    have HO2 : Hid ((wY1.alloc (.cells #[] 9)).ownsRow wX.heap.size 9 1 (.slice (some ⟨q0, 0, none⟩) 0 0) ([] : List ByteArray).length (sc [])) := by rw [hqq]; exact World.ownsRow_made wY1 #[] 0 HB1.out.size (by decide) rfl
    have HS2 : Hid (Src (wY1.alloc (.cells #[] 9)) (.slice (some ⟨qx, 0, none⟩) 1 1) [s]) := HS1.out.below ((Below.refl _ _).alloc (Nat.le_refl _) _)
    have HNE : Hid (q0 ≠ qx) := by
      have e := HQ1.out
      have e2 : q0 ≠ qx := by omega
      exact e2
    clear hqq
    generalize wY1.alloc (.cells #[] 9) = wY2 at *
    refine hK.out _ _ (fun _ _ => (HC.out _ HB2.out)) ?_
    clear hK K
    refine wpAnyU_ready (rs := [5]) (by kernel_rfl) (by simp) ?_
    refine AllReadyU.cons (o := _) rfl (fun K hK => ?_) AllReadyU.nil
    refine wp_strs _ _ rfl wX.heap.size (.slice (some ⟨q0, 0, none⟩) 0 0) (.slice (none) k c) [] (n.names.take k) wY2 rfl rfl HO2.out HB2.out.size (HSRC.out.1 _ HB2.out) (by have := HM.out; simp only [List.length_nil, List.length_take]; omega) ?_
    intro v34 wY3 ho hb hg
    rw [List.nil_append] at ho
    have HO3 : Hid (wY3.ownsRow wX.heap.size 9 1 v34 (n.names.take k).length (sc (n.names.take k))) := ho
    have HB3 : Hid (Below wX.heap.size wX wY3) := HB2.out.trans (hb.mono (Nat.le_refl _))
    have HS3 : Hid (Src wY3 (.slice (some ⟨qx, 0, none⟩) 1 1) [s]) := HS2.out.grown hg (fun e => HNE.out (by simpa [Value.ownBlock] using e))
    obtain ⟨a34, c34, hv34, _⟩ := row_form ho
    obtain ⟨n34, hn34⟩ : ∃ z, z = (n.names.take k).length := ⟨_, rfl⟩
    rw [← hn34] at hv34
    subst hv34
    clear ho hb hg hn34
    go_simp
    refine hK.out _ _ (fun _ _ => (HC.out _ HB3.out)) ?_
    clear hK K
    refine wpAnyU_ready (rs := [8]) (by kernel_rfl) (by simp) ?_
    refine AllReadyU.cons (o := _) rfl (fun K hK => ?_) AllReadyU.nil
    refine wp_strs _ _ rfl wX.heap.size (.slice a34 n34 c34) (.slice (some ⟨qx, 0, none⟩) 1 1) (n.names.take k) [s] wY3 rfl rfl HO3.out HB3.out.size HS3.out (by have := HM.out; simp only [List.length_singleton, List.length_take]; omega) ?_
    intro v35 wY4 ho hb hg
    have HO5 : Hid (wY4.ownsRow wX.heap.size 9 1 v35 (n.names.take k ++ [s]).length (sc (n.names.take k ++ [s]))) := ho
    have HB5 : Hid (Below wX.heap.size wX wY4) := HB3.out.trans (hb.mono (Nat.le_refl _))
    obtain ⟨a35, c35, hv35, _⟩ := row_form ho
    obtain ⟨n35, hn35⟩ : ∃ z, z = (n.names.take k ++ [s]).length := ⟨_, rfl⟩
    rw [← hn35] at hv35
    subst hv35
    clear ho hb hg hn35
    go_simp
    refine hK.out _ _ (fun _ _ => (HC.out _ HB5.out)) ?_
    clear hK K
    refine wpAnyU_ready (rs := [13]) (by kernel_rfl) (by simp) ?_
    refine AllReadyU.cons (o := _) rfl (fun K hK => ?_) AllReadyU.nil
    refine wp_strs _ _ rfl wX.heap.size (.slice a35 n35 c35) (.slice none (N - k) (c - k)) (n.names.take k ++ [s]) (n.names.drop k) wY4 rfl rfl HO5.out HB5.out.size (HSRC.out.2 _ HB5.out) (by have := HM.out; simp only [List.length_append, List.length_singleton, List.length_drop, List.length_take]; omega) ?_
    intro v42 wY5 ho hb hg
    have HO4 : Hid (wY5.ownsRow wX.heap.size 9 1 v42 (n.names.take k ++ [s] ++ n.names.drop k).length (sc (n.names.take k ++ [s] ++ n.names.drop k))) := ho
    have HB4 : Hid (Below wX.heap.size wX wY5) := HB5.out.trans (hb.mono (Nat.le_refl _))
    obtain ⟨a42, c42, hv42, _⟩ := row_form ho
    obtain ⟨n42, hn42⟩ : ∃ z, z = (n.names.take k ++ [s] ++ n.names.drop k).length := ⟨_, rfl⟩
    have HN42 : Hid (n42 = (n.names.take k ++ [s] ++ n.names.drop k).length) := hn42
    rw [← hn42] at hv42
    subst hv42
    clear ho hb hg hn42
    have HN3 : Hid (Cb wY5 w.heap.size (k10 n (.slice (none) N c)) 40) := HN.out.below HB4.out
    have HZ3 : Hid (Cb wY5 (w.heap.size + 1) (k10 Kq.zero (.slice none 0 0)) 40) := HZ.out.below HB4.out
    have HQ4 : Hid (wY5.cell? ⟨w.heap.size, 9, none⟩ = some (.slice (none) N c) ∧ wY5.frozen? ⟨w.heap.size, 9, none⟩ = false) := ⟨HC.out _ HB4.out, HN3.out.free 9⟩
    go_simp
    refine hK.out _ _ (fun _ _ => HQ4.out.1) ?_
    clear hK K
    refine' take_U (i := 14) (d := 31) (v := _) rfl rfl (by kernel_rfl) (by kernel_rfl) (by kernel_rfl) (by kernel_rfl) (by kernel_rfl) (by kernel_rfl) (fun _ _ _ h => h) (Or.inl ⟨by rfl, ?h14⟩) (HQ4.out.1) ?_
    case h14 => intro w hSw; go_simp; with_reducible rfl
    simp only [List.setIfInBounds_toArray, List.set_cons_zero, List.set_cons_succ]
    refine wpAnyU_ready (rs := [15]) (by kernel_rfl) (by simp) ?_
    refine AllReadyU.cons (o := _) rfl (fun K hK => ?_) AllReadyU.nil
    have hc := HQ4.out.1
    have hz := HQ4.out.2
    go_simp
    clear hc hz
    refine hK.out _ _ (fun h => absurd (by decide) h) ?_
    clear hK K
    refine wpAnyU_done (by kernel_rfl) ?_ _
    have HNz : Hid (Cb (wY5.setCell ⟨w.heap.size, 9, none⟩ (.slice a42 n42 c42)) w.heap.size (k10 n (.slice a42 n42 c42)) 40) := HN3.out.set 9 _
    have HZz : Hid (Cb (wY5.setCell ⟨w.heap.size, 9, none⟩ (.slice a42 n42 c42)) (w.heap.size + 1) (k10 Kq.zero (.slice none 0 0)) 40) := HZ3.out.keep (RowKit.Below.heap_setCell _ _ _ _ (by show w.heap.size + 1 ≠ w.heap.size; omega))
    have HRz : Hid ((wY5.setCell ⟨w.heap.size, 9, none⟩ (.slice a42 n42 c42)).ownsRow wX.heap.size 9 1 (.slice a42 n42 c42) (n.names.take k ++ [s] ++ n.names.drop k).length (sc (n.names.take k ++ [s] ++ n.names.drop k))) := row_stays HO4.out (fun x hx => RowKit.Below.heap_setCell _ _ _ _ (fun e => by have h1 := (HO4.out.lt x hx).1; have h2 := HWX.out; have h3 : x = w.heap.size := e; omega))
    have HBz : Hid (Below w.heap.size w (wY5.setCell ⟨w.heap.size, 9, none⟩ (.slice a42 n42 c42))) := (HBX.out.trans (HB4.out.mono HBX.out.size)).grown (grownBy_setCell _ _ _) (HBX.out.trans (HB4.out.mono HBX.out.size)).size (fun x hx => by simp at hx; omega)
    generalize wY5.setCell ⟨w.heap.size, 9, none⟩ (.slice a42 n42 c42) = wz at *
    clear HSRC
    obtain ⟨c0, c1, c2, c3, c4, c5, c6, c7, c8, c9⟩ := ten_cells HNz.out
    obtain ⟨z0, z1, z2, z3, z4, z5, z6, z7, z8, z9⟩ := ten_cells HZz.out
    have f0 := HZz.out.free 0
    have f1 := HZz.out.free 1
    have f2 := HZz.out.free 2
    have f3 := HZz.out.free 3
    have f4 := HZz.out.free 4
    have f5 := HZz.out.free 5
    have f6 := HZz.out.free 6
    have f7 := HZz.out.free 7
    have f8 := HZz.out.free 8
    have f9 := HZz.out.free 9
    have e0 := HNz.out.free 0
    have e1 := HNz.out.free 1
    have e2 := HNz.out.free 2
    have e3 := HNz.out.free 3
    have e4 := HNz.out.free 4
    have e5 := HNz.out.free 5
    have e6 := HNz.out.free 6
    have e7 := HNz.out.free 7
    have e8 := HNz.out.free 8
    have e9 := HNz.out.free 9
    go_wp2_with fail
    refine (refMore_any n.kids _ HK.out.1).mono ?_
    rintro e w5 ⟨rfl, hw5⟩
    rw [hw5]
    clear hw5 w5
    go_wp2_with fail
    refine (refMore_any n.next _ HK.out.2).mono ?_
    rintro e w5 ⟨rfl, hw5⟩
    rw [hw5]
    clear hw5 w5
    go_wp2_with fail
    have hg1 : wz.grownBy (((wz.setCell ⟨w.heap.size, 3, none⟩ (.int .i64 (Kq.more n.kids))).setCell ⟨w.heap.size, 6, none⟩ (.int .i64 (n42 : Int))).setCell ⟨w.heap.size, 8, none⟩ (.int .i64 (Kq.more n.next))) (some w.heap.size) := (grown_set (grown_set (grown_set ⟨rfl, rfl, rfl, Nat.le_refl _, fun _ _ _ => rfl⟩ _) _) _)
    have hg2 := put10_grown (((wz.setCell ⟨w.heap.size, 3, none⟩ (.int .i64 (Kq.more n.kids))).setCell ⟨w.heap.size, 6, none⟩ (.int .i64 (n42 : Int))).setCell ⟨w.heap.size, 8, none⟩ (.int .i64 (Kq.more n.next))) (w.heap.size + 1) ({ n with kids := Kq.more n.kids, cnt := (n42 : Int), next := Kq.more n.next } : Kq.Kn) (.slice a42 n42 c42)
    have HX : Hid (Cb (put10 (((wz.setCell ⟨w.heap.size, 3, none⟩ (.int .i64 (Kq.more n.kids))).setCell ⟨w.heap.size, 6, none⟩ (.int .i64 (n42 : Int))).setCell ⟨w.heap.size, 8, none⟩ (.int .i64 (Kq.more n.next))) (w.heap.size + 1) ({ n with kids := Kq.more n.kids, cnt := (n42 : Int), next := Kq.more n.next } : Kq.Kn) (.slice a42 n42 c42)) (w.heap.size + 1) (k10 ({ n with kids := Kq.more n.kids, cnt := (n42 : Int), next := Kq.more n.next } : Kq.Kn) (.slice a42 n42 c42)) 40) := put10_cb (HZz.out.keep (hg1.block _ HZz.out.lt (fun e => by simp at e)))
    have HBX2 : Hid (Below w.heap.size w (put10 (((wz.setCell ⟨w.heap.size, 3, none⟩ (.int .i64 (Kq.more n.kids))).setCell ⟨w.heap.size, 6, none⟩ (.int .i64 (n42 : Int))).setCell ⟨w.heap.size, 8, none⟩ (.int .i64 (Kq.more n.next))) (w.heap.size + 1) ({ n with kids := Kq.more n.kids, cnt := (n42 : Int), next := Kq.more n.next } : Kq.Kn) (.slice a42 n42 c42))) := (HBz.out.grown hg1 HBz.out.size (fun k hk => by simp at hk; omega)).grown hg2 (Nat.le_trans HBz.out.size hg1.size) (fun k hk => by simp at hk; omega)
    have HRX : Hid ((put10 (((wz.setCell ⟨w.heap.size, 3, none⟩ (.int .i64 (Kq.more n.kids))).setCell ⟨w.heap.size, 6, none⟩ (.int .i64 (n42 : Int))).setCell ⟨w.heap.size, 8, none⟩ (.int .i64 (Kq.more n.next))) (w.heap.size + 1) ({ n with kids := Kq.more n.kids, cnt := (n42 : Int), next := Kq.more n.next } : Kq.Kn) (.slice a42 n42 c42)).ownsRow wX.heap.size 9 1 (.slice a42 n42 c42) (n.names.take k ++ [s] ++ n.names.drop k).length (sc (n.names.take k ++ [s] ++ n.names.drop k))) := row_stays HRz.out (fun x hx => by
      have h1 := HRz.out.lt x hx
      have h2 := HWX.out
      rw [hg2.block x (Nat.lt_of_lt_of_le h1.2 hg1.size) (fun e => by simp at e; omega), hg1.block x h1.2 (fun e => by simp at e; omega)])
    unfold put10 at HX HBX2 HRX
    simp only [] at HX HBX2 HRX
    clear hg1 hg2
    generalize (((((((((((((wz.setCell ⟨w.heap.size, 3, none⟩ (.int .i64 (Kq.more n.kids))).setCell ⟨w.heap.size, 6, none⟩ (.int .i64 (n42 : Int))).setCell ⟨w.heap.size, 8, none⟩ (.int .i64 (Kq.more n.next))).setCell ⟨w.heap.size + 1, 0, none⟩ (.int .i64 n.made)).setCell ⟨w.heap.size + 1, 1, none⟩ (.int .i64 n.changed)).setCell ⟨w.heap.size + 1, 2, none⟩ (.int .i64 n.ver)).setCell ⟨w.heap.size + 1, 3, none⟩ (.int .i64 (Kq.more n.kids))).setCell ⟨w.heap.size + 1, 4, none⟩ (.int .i64 n.owner)).setCell ⟨w.heap.size + 1, 5, none⟩ (.int .i64 n.len)).setCell ⟨w.heap.size + 1, 6, none⟩ (.int .i64 (n42 : Int))).setCell ⟨w.heap.size + 1, 7, none⟩ (.string n.data)).setCell ⟨w.heap.size + 1, 8, none⟩ (.int .i64 (Kq.more n.next))).setCell ⟨w.heap.size + 1, 9, none⟩ (.slice a42 n42 c42)) = wy at *
    clear c0 c1 c2 c3 c4 c5 c6 c7 c8 c9 z0 z1 z2 z3 z4 z5 z6 z7 z8 z9 f0 f1 f2 f3 f4 f5 f6 f7 f8 f9 e0 e1 e2 e3 e4 e5 e6 e7 e8 e9
    refine bodyPost_ret (v := .tuple #[.agg #[.int .i64 n.made, .int .i64 n.changed, .int .i64 n.ver, .int .i64 (Kq.more n.kids), .int .i64 n.owner, .int .i64 n.len, .int .i64 (n42 : Int), .string n.data, .int .i64 (Kq.more n.next), .slice a42 n42 c42], .bool true]) ?_ rfl ?_
    · obtain ⟨c0, c1, c2, c3, c4, c5, c6, c7, c8, c9⟩ := ten_cells HX.out
      simp only [] at c0 c1 c2 c3 c4 c5 c6 c7 c8 c9
      rw [results_cell_tmp rfl]
      go_simp
    · have e : (n42 : Int) = ((n.names.length + 1 : Nat) : Int) := by
        have h1 := HN42.out
        have h2 := HM.out
        rw [List.length_append, List.length_append, List.length_take, List.length_drop, List.length_singleton] at h1
        omega
      refine ⟨a42, n42, c42, ?_, ?_, fun x hx => (by have h1 := (HRX.out.lt x hx).1; have h2 := HWX.out; omega), HBX2.out⟩
      · rw [HADD.out, e]
      · rw [HADD.out]
        have e2 := Nm.of_row HRX.out
        exact e2
set_option maxRecDepth 20000 in
set_option maxHeartbeats 16000000 in
theorem refAdd_some (n : Kq.Kn) (g o : Nat) (N c k : Nat) (s : ByteArray) (w : World) (h : Nm w (.slice (some ⟨g, o, none⟩) N c) n.names) (hNc : N = n.names.length ∧ N ≤ c) (hf : Fine10 n) (hr : Kq.Rises n.names) (hh : Kq.has n.names s = false) (hk : k = (Kq.low n.names s).length) :
    Calls Try.prog 22 #[kv n (.slice (some ⟨g, o, none⟩) N c), .string s] w fun e w' => ∃ a' L' c', e = .returned (.tuple #[kv (Kq.add n s) (.slice a' L' c'), .bool true]) ∧ Nm w' (.slice a' L' c') (Kq.add n s).names ∧ New10 w (.slice a' L' c') ∧ Below w.heap.size w w' := by
  obtain ⟨hd, hkN⟩ := Kq.ins_cut n.names s
  have HADD : Hid (Kq.add n s = { n with names := n.names.take k ++ [s] ++ n.names.drop k, kids := Kq.more n.kids, cnt := ((n.names.length + 1 : Nat) : Int), next := Kq.more n.next }) := by
    have e := Kq.add_yes hh
    rw [hd, ← hk] at e
    exact e
  have HP : Hid (∀ w', Below w.heap.size w w' → Calls Try.prog 41 #[.slice (some ⟨g, o, none⟩) N c, .string s] w' fun e w1 => e = .returned (.tuple #[.int .i64 (k : Int), .bool false]) ∧ Below w'.heap.size w' w1) := fun w' hb => by
    have := refPlace_any (.slice (some ⟨g, o, none⟩) N c) n.names s w' (h.below hb).ss (by have := hf.many; omega) hr
    rw [hh, ← hk] at this
    exact this
  have HK : Hid ((-9223372036854775808 ≤ n.kids ∧ n.kids ≤ 9223372036854775807) ∧ (-9223372036854775808 ≤ n.next ∧ n.next ≤ 9223372036854775807)) := ⟨hf.kids, hf.next⟩
  rw [← hk] at hkN
  have HM : Hid (N = n.names.length ∧ N ≤ 1000 ∧ k ≤ N) := ⟨hNc.1, by rw [hNc.1]; exact hf.many, by rw [hNc.1]; exact hkN⟩
  have hcell : ∀ (j : Nat) s, n.names[j]? = some s → w.cell? ⟨g, o + j, none⟩ = some (.string s) := by
    rcases h with ⟨e, _⟩ | ⟨g', o', c', e, h1, h2⟩
    · cases e
    · simp only [Value.slice.injEq, Option.some.injEq, Addr.mk.injEq, and_true] at e
      obtain ⟨⟨rfl, rfl⟩, _, _⟩ := e
      exact h2
  have HCELL : Hid (∀ (j : Nat) s, n.names[j]? = some s → w.cell? ⟨g, o + j, none⟩ = some (.string s)) := hcell
  clear hcell
  have hLc : N ≤ c := hNc.2
  have hkN2 : k ≤ N := HM.out.2.2
  clear h hh hf hr hd hk hkN hNc
  have k0 : (0 : Int) ≤ (k : Int) := by omega
  have kN : (k : Int) ≤ (N : Int) := by omega
  have kc : (k : Int) ≤ (c : Int) := by omega
  unfold kv
  go_enter Try.func22, Try.ntmps22
  go_wp2_with fail
  have HB0 : Hid (Below w.heap.size w ((w.alloc (.cells (k10 n (.slice (some ⟨g, o, none⟩) N c)).toArray 40)).alloc (.cells (k10 Kq.zero (.slice none 0 0)).toArray 40))) := ((Below.refl _ w).alloc (Nat.le_refl _) _).alloc ((Below.refl _ w).alloc (Nat.le_refl _) _).size _
  refine (HP.out _ HB0.out).mono ?_
  rintro e w1 ⟨rfl, hb⟩
  have HB1 : Hid (Below w.heap.size w w1) := HB0.out.trans (hb.mono HB0.out.size)
  have hs1 : (w.alloc (.cells (k10 n (.slice (some ⟨g, o, none⟩) N c)).toArray 40)).heap.size = w.heap.size + 1 := by simp
  have HN1 : Hid (Cb w1 w.heap.size (k10 n (.slice (some ⟨g, o, none⟩) N c)) 40) := ((Cb.made w (k10 n (.slice (some ⟨g, o, none⟩) N c)) 40).below ((Below.refl _ _).alloc (Nat.le_refl _) _)).below hb
  have HZ1 : Hid (Cb w1 (w.heap.size + 1) (k10 Kq.zero (.slice none 0 0)) 40) := by
    have e := (Cb.made (w.alloc (.cells (k10 n (.slice (some ⟨g, o, none⟩) N c)).toArray 40)) (k10 Kq.zero (.slice none 0 0)) 40).below hb
    rw [hs1] at e
    exact e
  clear hb hs1
  go_wp2_with fail
  refine wp_region_U (fun w' => w'.cell? ⟨w.heap.size, 9, none⟩ = some (.slice (some ⟨g, o, none⟩) N c)) [15] (by kernel_rfl) ?_
  have HBX : Hid (Below w.heap.size w w1.drew) := HB1.out.drew
  have HN : Hid (Cb w1.drew w.heap.size (k10 n (.slice (some ⟨g, o, none⟩) N c)) 40) := HN1.out
  have HZ : Hid (Cb w1.drew (w.heap.size + 1) (k10 Kq.zero (.slice none 0 0)) 40) := HZ1.out
  have HWX : Hid (w.heap.size + 1 < w1.drew.heap.size) := HZ.out.lt
  generalize w1.drew = wX at *
  clear HN1 HZ1 HB0 HB1 HP
  have HC : Hid (∀ w', Below wX.heap.size wX w' → w'.cell? ⟨w.heap.size, 9, none⟩ = some (.slice (some ⟨g, o, none⟩) N c)) := fun w' hb => Below.kept hb (HN.out.cell 9)
  have HSX : Hid (wX.cell? ⟨w.heap.size, 9, none⟩ = some (.slice (some ⟨g, o, none⟩) N c)) := HC.out _ (Below.refl _ _)
  have HSRC : Hid ((∀ w', Below wX.heap.size wX w' → Src w' (.slice (some ⟨g, o, none⟩) k c) (n.names.take k)) ∧ ∀ w', Below wX.heap.size wX w' → Src w' (.slice (if c = k then some ⟨g, o, none⟩ else some ⟨g, o + k, none⟩) (N - k) (c - k)) (n.names.drop k)) := by
    have hm := HM.out
    refine ⟨fun w' hb => ?_, fun w' hb => ?_⟩
    · refine Or.inr ⟨g, o, c, by rw [List.length_take, Nat.min_eq_left (by omega)], fun j x hx => ?_⟩
      rw [List.getElem?_take] at hx
      split at hx
      · exact Below.kept (HBX.out.trans (hb.mono HBX.out.size)) (HCELL.out j x hx)
      · cases hx
    · by_cases hcj : c = k
      · have hdr : n.names.drop k = [] := List.drop_eq_nil_iff.2 (by omega)
        rw [if_pos hcj]
        refine Or.inr ⟨g, o, c - k, by rw [List.length_drop, ← hm.1], fun j x hx => ?_⟩
        rw [hdr] at hx
        simp at hx
      · rw [if_neg hcj]
        refine Or.inr ⟨g, o + k, c - k, by rw [List.length_drop, ← hm.1], fun j x hx => ?_⟩
        rw [List.getElem?_drop] at hx
        have e := Below.kept (HBX.out.trans (hb.mono HBX.out.size)) (HCELL.out _ x hx)
        rw [← Nat.add_assoc] at e
        exact e
  refine' take_U (i := 1) (d := 18) (v := _) rfl rfl (by kernel_rfl) (by kernel_rfl) (by kernel_rfl) (by kernel_rfl) (by kernel_rfl) (by kernel_rfl) (fun _ _ _ h => h) (Or.inl ⟨by rfl, ?h1⟩) (HSX.out) ?_
  case h1 => intro w hSw; go_simp; with_reducible rfl
  simp only [List.setIfInBounds_toArray, List.set_cons_zero, List.set_cons_succ]
  refine' take_U (i := 2) (d := 19) (v := _) rfl rfl (by kernel_rfl) (by kernel_rfl) (by kernel_rfl) (by kernel_rfl) (by kernel_rfl) (by kernel_rfl) (fun _ _ _ h => h) (Or.inl ⟨by rfl, ?h2⟩) (HSX.out) ?_
  case h2 => intro w hSw; go_simp; with_reducible rfl
  simp only [List.setIfInBounds_toArray, List.set_cons_zero, List.set_cons_succ]
  refine' take_U (i := 3) (d := 20) (v := _) rfl rfl (by kernel_rfl) (by kernel_rfl) (by kernel_rfl) (by kernel_rfl) (by kernel_rfl) (by kernel_rfl) (fun _ _ _ h => h) (Or.inl ⟨by rfl, ?h3⟩) (HSX.out) ?_
  case h3 => intro w hSw; go_simp; with_reducible rfl
  simp only [List.setIfInBounds_toArray, List.set_cons_zero, List.set_cons_succ]
  refine' take_U (i := 4) (d := 21) (v := _) rfl rfl (by kernel_rfl) (by kernel_rfl) (by kernel_rfl) (by kernel_rfl) (by kernel_rfl) (by kernel_rfl) (fun _ _ _ h => h) (Or.inl ⟨by rfl, ?h4⟩) (HSX.out) ?_
  case h4 => intro w hSw; go_simp; with_reducible rfl
  simp only [List.setIfInBounds_toArray, List.set_cons_zero, List.set_cons_succ]
  refine' take_U (i := 6) (d := 23) (v := _) rfl rfl (by kernel_rfl) (by kernel_rfl) (by kernel_rfl) (by kernel_rfl) (by kernel_rfl) (by kernel_rfl) (fun _ _ _ h => h) (Or.inl ⟨by rfl, ?h6⟩) (HSX.out) ?_
  case h6 => intro w hSw; go_simp; with_reducible rfl
  simp only [List.setIfInBounds_toArray, List.set_cons_zero, List.set_cons_succ]
  refine' take_U (i := 9) (d := 26) (v := _) rfl rfl (by kernel_rfl) (by kernel_rfl) (by kernel_rfl) (by kernel_rfl) (by kernel_rfl) (by kernel_rfl) (fun _ _ _ h => h) (Or.inl ⟨by rfl, ?h9⟩) (HSX.out) ?_
  case h9 => intro w hSw; go_simp; with_reducible rfl
  simp only [List.setIfInBounds_toArray, List.set_cons_zero, List.set_cons_succ]
  refine' take_U (i := 10) (d := 27) (v := _) rfl rfl (by kernel_rfl) (by kernel_rfl) (by kernel_rfl) (by kernel_rfl) (by kernel_rfl) (by kernel_rfl) (fun _ _ _ h => h) (Or.inl ⟨by rfl, ?h10⟩) (HSX.out) ?_
  case h10 => intro w hSw; go_simp; with_reducible rfl
  simp only [List.setIfInBounds_toArray, List.set_cons_zero, List.set_cons_succ]
  refine' take_U (i := 11) (d := 28) (v := _) rfl rfl (by kernel_rfl) (by kernel_rfl) (by kernel_rfl) (by kernel_rfl) (by kernel_rfl) (by kernel_rfl) (fun _ _ _ h => h) (Or.inl ⟨by rfl, ?h11⟩) (HSX.out) ?_
  case h11 => intro w hSw; go_simp; with_reducible rfl
  simp only [List.setIfInBounds_toArray, List.set_cons_zero, List.set_cons_succ]
  refine' take_U (i := 12) (d := 29) (v := _) rfl rfl (by kernel_rfl) (by kernel_rfl) (by kernel_rfl) (by kernel_rfl) (by kernel_rfl) (by kernel_rfl) (fun _ _ _ h => h) (Or.inl ⟨by rfl, ?h12⟩) (HSX.out) ?_
  case h12 => intro w hSw; go_simp; with_reducible rfl
  simp only [List.setIfInBounds_toArray, List.set_cons_zero, List.set_cons_succ]
  have HB0 : Hid (Below wX.heap.size wX wX) := Below.refl _ _
  refine wpAnyU_ready (rs := [0, 7]) (by kernel_rfl) (by simp) ?_
  refine AllReadyU.cons (o := _) rfl (fun K hK => ?_) (AllReadyU.cons (o := _) rfl (fun K hK => ?_) AllReadyU.nil)
  · go_simp
    obtain ⟨q0, hqq⟩ : ∃ z, z = wX.heap.size := ⟨_, rfl⟩
    rw [← hqq]
    have HB1 : Hid (Below wX.heap.size wX (wX.alloc (.cells #[] 9))) := HB0.out.alloc HB0.out.size _
    have HO1 : Hid ((wX.alloc (.cells #[] 9)).ownsRow wX.heap.size 9 1 (.slice (some ⟨q0, 0, none⟩) 0 0) ([] : List ByteArray).length (sc [])) := by rw [hqq]; exact World.ownsRow_made wX #[] 0 HB0.out.size (by decide) rfl
    clear hqq
    generalize wX.alloc (.cells #[] 9) = wY1 at *
    refine hK.out _ _ (fun _ _ => (HC.out _ HB1.out)) ?_
    clear hK K
    refine wpAnyU_ready (rs := [5, 7]) (by kernel_rfl) (by simp) ?_
    refine AllReadyU.cons (o := _) rfl (fun K hK => ?_) (AllReadyU.cons (o := _) rfl (fun K hK => ?_) AllReadyU.nil)
    · refine wp_strs _ _ rfl wX.heap.size (.slice (some ⟨q0, 0, none⟩) 0 0) (.slice (some ⟨g, o, none⟩) k c) [] (n.names.take k) wY1 rfl rfl HO1.out HB1.out.size (HSRC.out.1 _ HB1.out) (by have := HM.out; simp only [List.length_nil, List.length_take]; omega) ?_
      intro v34 wY2 ho hb hg
      rw [List.nil_append] at ho
      have HO2 : Hid (wY2.ownsRow wX.heap.size 9 1 v34 (n.names.take k).length (sc (n.names.take k))) := ho
      have HB2 : Hid (Below wX.heap.size wX wY2) := HB1.out.trans (hb.mono (Nat.le_refl _))
      obtain ⟨a34, c34, hv34, _⟩ := row_form ho
      obtain ⟨n34, hn34⟩ : ∃ z, z = (n.names.take k).length := ⟨_, rfl⟩
      rw [← hn34] at hv34
      subst hv34
      clear ho hb hg hn34
      go_simp
      refine hK.out _ _ (fun _ _ => (HC.out _ HB2.out)) ?_
      clear hK K
      refine wpAnyU_ready (rs := [7]) (by kernel_rfl) (by simp) ?_
      refine AllReadyU.cons (o := _) rfl (fun K hK => ?_) AllReadyU.nil
      go_simp
      obtain ⟨qx, hqx⟩ : ∃ z, z = wY2.heap.size := ⟨_, rfl⟩
      rw [← hqx]
      have HB3 : Hid (Below wX.heap.size wX (wY2.alloc (.cells #[.string s] 9))) := HB2.out.alloc HB2.out.size _
      have HS3 : Hid (Src (wY2.alloc (.cells #[.string s] 9)) (.slice (some ⟨qx, 0, none⟩) 1 1) [s]) := by rw [hqx]; exact Src.one wY2 s _
      have HQ3 : Hid (qx < (wY2.alloc (.cells #[.string s] 9)).heap.size) := by
        have e : qx < (wY2.alloc (.cells #[.string s] 9)).heap.size := by rw [hqx]; simp
        exact e
      have HO3 : Hid ((wY2.alloc (.cells #[.string s] 9)).ownsRow wX.heap.size 9 1 (.slice a34 n34 c34) (n.names.take k).length (sc (n.names.take k))) := HO2.out.alloc _
      clear hqx
      generalize wY2.alloc (.cells #[.string s] 9) = wY3 at *
      refine hK.out _ _ (fun _ _ => (HC.out _ HB3.out)) ?_
      clear hK K
      refine wpAnyU_ready (rs := [8]) (by kernel_rfl) (by simp) ?_
      refine AllReadyU.cons (o := _) rfl (fun K hK => ?_) AllReadyU.nil
      refine wp_strs _ _ rfl wX.heap.size (.slice a34 n34 c34) (.slice (some ⟨qx, 0, none⟩) 1 1) (n.names.take k) [s] wY3 rfl rfl HO3.out HB3.out.size HS3.out (by have := HM.out; simp only [List.length_singleton, List.length_take]; omega) ?_
      intro v35 wY4 ho hb hg
      have HO5 : Hid (wY4.ownsRow wX.heap.size 9 1 v35 (n.names.take k ++ [s]).length (sc (n.names.take k ++ [s]))) := ho
      have HB5 : Hid (Below wX.heap.size wX wY4) := HB3.out.trans (hb.mono (Nat.le_refl _))
      obtain ⟨a35, c35, hv35, _⟩ := row_form ho
      obtain ⟨n35, hn35⟩ : ∃ z, z = (n.names.take k ++ [s]).length := ⟨_, rfl⟩
      rw [← hn35] at hv35
      subst hv35
      clear ho hb hg hn35
      go_simp
      refine hK.out _ _ (fun _ _ => (HC.out _ HB5.out)) ?_
      clear hK K
      refine wpAnyU_ready (rs := [13]) (by kernel_rfl) (by simp) ?_
      refine AllReadyU.cons (o := _) rfl (fun K hK => ?_) AllReadyU.nil
      refine wp_strs _ _ rfl wX.heap.size (.slice a35 n35 c35) (.slice (if c = k then some ⟨g, o, none⟩ else some ⟨g, o + k, none⟩) (N - k) (c - k)) (n.names.take k ++ [s]) (n.names.drop k) wY4 rfl rfl HO5.out HB5.out.size (HSRC.out.2 _ HB5.out) (by have := HM.out; simp only [List.length_append, List.length_singleton, List.length_drop, List.length_take]; omega) ?_
      intro v42 wY5 ho hb hg
      have HO4 : Hid (wY5.ownsRow wX.heap.size 9 1 v42 (n.names.take k ++ [s] ++ n.names.drop k).length (sc (n.names.take k ++ [s] ++ n.names.drop k))) := ho
      have HB4 : Hid (Below wX.heap.size wX wY5) := HB5.out.trans (hb.mono (Nat.le_refl _))
      obtain ⟨a42, c42, hv42, _⟩ := row_form ho
      obtain ⟨n42, hn42⟩ : ∃ z, z = (n.names.take k ++ [s] ++ n.names.drop k).length := ⟨_, rfl⟩
      have HN42 : Hid (n42 = (n.names.take k ++ [s] ++ n.names.drop k).length) := hn42
      rw [← hn42] at hv42
      subst hv42
      clear ho hb hg hn42
      have HN3 : Hid (Cb wY5 w.heap.size (k10 n (.slice (some ⟨g, o, none⟩) N c)) 40) := HN.out.below HB4.out
      have HZ3 : Hid (Cb wY5 (w.heap.size + 1) (k10 Kq.zero (.slice none 0 0)) 40) := HZ.out.below HB4.out
      have HQ4 : Hid (wY5.cell? ⟨w.heap.size, 9, none⟩ = some (.slice (some ⟨g, o, none⟩) N c) ∧ wY5.frozen? ⟨w.heap.size, 9, none⟩ = false) := ⟨HC.out _ HB4.out, HN3.out.free 9⟩
      go_simp
      refine hK.out _ _ (fun _ _ => HQ4.out.1) ?_
      clear hK K
      refine' take_U (i := 14) (d := 31) (v := _) rfl rfl (by kernel_rfl) (by kernel_rfl) (by kernel_rfl) (by kernel_rfl) (by kernel_rfl) (by kernel_rfl) (fun _ _ _ h => h) (Or.inl ⟨by rfl, ?h14⟩) (HQ4.out.1) ?_
      case h14 => intro w hSw; go_simp; with_reducible rfl
      simp only [List.setIfInBounds_toArray, List.set_cons_zero, List.set_cons_succ]
      refine wpAnyU_ready (rs := [15]) (by kernel_rfl) (by simp) ?_
      refine AllReadyU.cons (o := _) rfl (fun K hK => ?_) AllReadyU.nil
      have hc := HQ4.out.1
      have hz := HQ4.out.2
      go_simp
      clear hc hz
      refine hK.out _ _ (fun h => absurd (by decide) h) ?_
      clear hK K
      refine wpAnyU_done (by kernel_rfl) ?_ _
      have HNz : Hid (Cb (wY5.setCell ⟨w.heap.size, 9, none⟩ (.slice a42 n42 c42)) w.heap.size (k10 n (.slice a42 n42 c42)) 40) := HN3.out.set 9 _
      have HZz : Hid (Cb (wY5.setCell ⟨w.heap.size, 9, none⟩ (.slice a42 n42 c42)) (w.heap.size + 1) (k10 Kq.zero (.slice none 0 0)) 40) := HZ3.out.keep (RowKit.Below.heap_setCell _ _ _ _ (by show w.heap.size + 1 ≠ w.heap.size; omega))
      have HRz : Hid ((wY5.setCell ⟨w.heap.size, 9, none⟩ (.slice a42 n42 c42)).ownsRow wX.heap.size 9 1 (.slice a42 n42 c42) (n.names.take k ++ [s] ++ n.names.drop k).length (sc (n.names.take k ++ [s] ++ n.names.drop k))) := row_stays HO4.out (fun x hx => RowKit.Below.heap_setCell _ _ _ _ (fun e => by have h1 := (HO4.out.lt x hx).1; have h2 := HWX.out; have h3 : x = w.heap.size := e; omega))
      have HBz : Hid (Below w.heap.size w (wY5.setCell ⟨w.heap.size, 9, none⟩ (.slice a42 n42 c42))) := (HBX.out.trans (HB4.out.mono HBX.out.size)).grown (grownBy_setCell _ _ _) (HBX.out.trans (HB4.out.mono HBX.out.size)).size (fun x hx => by simp at hx; omega)
      generalize wY5.setCell ⟨w.heap.size, 9, none⟩ (.slice a42 n42 c42) = wz at *
      clear HSRC
      generalize (if c = k then some (⟨g, o, none⟩ : Addr) else some ⟨g, o + k, none⟩) = au
      obtain ⟨c0, c1, c2, c3, c4, c5, c6, c7, c8, c9⟩ := ten_cells HNz.out
      obtain ⟨z0, z1, z2, z3, z4, z5, z6, z7, z8, z9⟩ := ten_cells HZz.out
      have f0 := HZz.out.free 0
      have f1 := HZz.out.free 1
      have f2 := HZz.out.free 2
      have f3 := HZz.out.free 3
      have f4 := HZz.out.free 4
      have f5 := HZz.out.free 5
      have f6 := HZz.out.free 6
      have f7 := HZz.out.free 7
      have f8 := HZz.out.free 8
      have f9 := HZz.out.free 9
      have e0 := HNz.out.free 0
      have e1 := HNz.out.free 1
      have e2 := HNz.out.free 2
      have e3 := HNz.out.free 3
      have e4 := HNz.out.free 4
      have e5 := HNz.out.free 5
      have e6 := HNz.out.free 6
      have e7 := HNz.out.free 7
      have e8 := HNz.out.free 8
      have e9 := HNz.out.free 9
      go_wp2_with fail
      refine (refMore_any n.kids _ HK.out.1).mono ?_
      rintro e w5 ⟨rfl, hw5⟩
      rw [hw5]
      clear hw5 w5
      go_wp2_with fail
      refine (refMore_any n.next _ HK.out.2).mono ?_
      rintro e w5 ⟨rfl, hw5⟩
      rw [hw5]
      clear hw5 w5
      go_wp2_with fail
      have hg1 : wz.grownBy (((wz.setCell ⟨w.heap.size, 3, none⟩ (.int .i64 (Kq.more n.kids))).setCell ⟨w.heap.size, 6, none⟩ (.int .i64 (n42 : Int))).setCell ⟨w.heap.size, 8, none⟩ (.int .i64 (Kq.more n.next))) (some w.heap.size) := (grown_set (grown_set (grown_set ⟨rfl, rfl, rfl, Nat.le_refl _, fun _ _ _ => rfl⟩ _) _) _)
      have hg2 := put10_grown (((wz.setCell ⟨w.heap.size, 3, none⟩ (.int .i64 (Kq.more n.kids))).setCell ⟨w.heap.size, 6, none⟩ (.int .i64 (n42 : Int))).setCell ⟨w.heap.size, 8, none⟩ (.int .i64 (Kq.more n.next))) (w.heap.size + 1) ({ n with kids := Kq.more n.kids, cnt := (n42 : Int), next := Kq.more n.next } : Kq.Kn) (.slice a42 n42 c42)
      have HX : Hid (Cb (put10 (((wz.setCell ⟨w.heap.size, 3, none⟩ (.int .i64 (Kq.more n.kids))).setCell ⟨w.heap.size, 6, none⟩ (.int .i64 (n42 : Int))).setCell ⟨w.heap.size, 8, none⟩ (.int .i64 (Kq.more n.next))) (w.heap.size + 1) ({ n with kids := Kq.more n.kids, cnt := (n42 : Int), next := Kq.more n.next } : Kq.Kn) (.slice a42 n42 c42)) (w.heap.size + 1) (k10 ({ n with kids := Kq.more n.kids, cnt := (n42 : Int), next := Kq.more n.next } : Kq.Kn) (.slice a42 n42 c42)) 40) := put10_cb (HZz.out.keep (hg1.block _ HZz.out.lt (fun e => by simp at e)))
      have HBX2 : Hid (Below w.heap.size w (put10 (((wz.setCell ⟨w.heap.size, 3, none⟩ (.int .i64 (Kq.more n.kids))).setCell ⟨w.heap.size, 6, none⟩ (.int .i64 (n42 : Int))).setCell ⟨w.heap.size, 8, none⟩ (.int .i64 (Kq.more n.next))) (w.heap.size + 1) ({ n with kids := Kq.more n.kids, cnt := (n42 : Int), next := Kq.more n.next } : Kq.Kn) (.slice a42 n42 c42))) := (HBz.out.grown hg1 HBz.out.size (fun k hk => by simp at hk; omega)).grown hg2 (Nat.le_trans HBz.out.size hg1.size) (fun k hk => by simp at hk; omega)
      have HRX : Hid ((put10 (((wz.setCell ⟨w.heap.size, 3, none⟩ (.int .i64 (Kq.more n.kids))).setCell ⟨w.heap.size, 6, none⟩ (.int .i64 (n42 : Int))).setCell ⟨w.heap.size, 8, none⟩ (.int .i64 (Kq.more n.next))) (w.heap.size + 1) ({ n with kids := Kq.more n.kids, cnt := (n42 : Int), next := Kq.more n.next } : Kq.Kn) (.slice a42 n42 c42)).ownsRow wX.heap.size 9 1 (.slice a42 n42 c42) (n.names.take k ++ [s] ++ n.names.drop k).length (sc (n.names.take k ++ [s] ++ n.names.drop k))) := row_stays HRz.out (fun x hx => by
        have h1 := HRz.out.lt x hx
        have h2 := HWX.out
        rw [hg2.block x (Nat.lt_of_lt_of_le h1.2 hg1.size) (fun e => by simp at e; omega), hg1.block x h1.2 (fun e => by simp at e; omega)])
      unfold put10 at HX HBX2 HRX
      simp only [] at HX HBX2 HRX
      clear hg1 hg2
      generalize (((((((((((((wz.setCell ⟨w.heap.size, 3, none⟩ (.int .i64 (Kq.more n.kids))).setCell ⟨w.heap.size, 6, none⟩ (.int .i64 (n42 : Int))).setCell ⟨w.heap.size, 8, none⟩ (.int .i64 (Kq.more n.next))).setCell ⟨w.heap.size + 1, 0, none⟩ (.int .i64 n.made)).setCell ⟨w.heap.size + 1, 1, none⟩ (.int .i64 n.changed)).setCell ⟨w.heap.size + 1, 2, none⟩ (.int .i64 n.ver)).setCell ⟨w.heap.size + 1, 3, none⟩ (.int .i64 (Kq.more n.kids))).setCell ⟨w.heap.size + 1, 4, none⟩ (.int .i64 n.owner)).setCell ⟨w.heap.size + 1, 5, none⟩ (.int .i64 n.len)).setCell ⟨w.heap.size + 1, 6, none⟩ (.int .i64 (n42 : Int))).setCell ⟨w.heap.size + 1, 7, none⟩ (.string n.data)).setCell ⟨w.heap.size + 1, 8, none⟩ (.int .i64 (Kq.more n.next))).setCell ⟨w.heap.size + 1, 9, none⟩ (.slice a42 n42 c42)) = wy at *
      clear c0 c1 c2 c3 c4 c5 c6 c7 c8 c9 z0 z1 z2 z3 z4 z5 z6 z7 z8 z9 f0 f1 f2 f3 f4 f5 f6 f7 f8 f9 e0 e1 e2 e3 e4 e5 e6 e7 e8 e9
      refine bodyPost_ret (v := .tuple #[.agg #[.int .i64 n.made, .int .i64 n.changed, .int .i64 n.ver, .int .i64 (Kq.more n.kids), .int .i64 n.owner, .int .i64 n.len, .int .i64 (n42 : Int), .string n.data, .int .i64 (Kq.more n.next), .slice a42 n42 c42], .bool true]) ?_ rfl ?_
      · obtain ⟨c0, c1, c2, c3, c4, c5, c6, c7, c8, c9⟩ := ten_cells HX.out
        simp only [] at c0 c1 c2 c3 c4 c5 c6 c7 c8 c9
        rw [results_cell_tmp rfl]
        go_simp
      · have e : (n42 : Int) = ((n.names.length + 1 : Nat) : Int) := by
          have h1 := HN42.out
          have h2 := HM.out
          rw [List.length_append, List.length_append, List.length_take, List.length_drop, List.length_singleton] at h1
          omega
        refine ⟨a42, n42, c42, ?_, ?_, fun x hx => (by have h1 := (HRX.out.lt x hx).1; have h2 := HWX.out; omega), HBX2.out⟩
        · rw [HADD.out, e]
        · rw [HADD.out]
          have e2 := Nm.of_row HRX.out
          exact e2
    · go_simp
      obtain ⟨qx, hqx⟩ : ∃ z, z = wY1.heap.size := ⟨_, rfl⟩
      rw [← hqx]
      have HB2 : Hid (Below wX.heap.size wX (wY1.alloc (.cells #[.string s] 9))) := HB1.out.alloc HB1.out.size _
      have HS2 : Hid (Src (wY1.alloc (.cells #[.string s] 9)) (.slice (some ⟨qx, 0, none⟩) 1 1) [s]) := by rw [hqx]; exact Src.one wY1 s _
      have HQ2 : Hid (qx < (wY1.alloc (.cells #[.string s] 9)).heap.size) := by
        have e : qx < (wY1.alloc (.cells #[.string s] 9)).heap.size := by rw [hqx]; simp
        exact e
      have HO2 : Hid ((wY1.alloc (.cells #[.string s] 9)).ownsRow wX.heap.size 9 1 (.slice (some ⟨q0, 0, none⟩) 0 0) ([] : List ByteArray).length (sc [])) := HO1.out.alloc _
      have HNE : Hid (q0 ≠ qx) := by
        have e := (HO1.out.lt q0 rfl).2
        have e2 : q0 ≠ qx := by omega
        exact e2
      clear hqx
      generalize wY1.alloc (.cells #[.string s] 9) = wY2 at *
      refine hK.out _ _ (fun _ _ => (HC.out _ HB2.out)) ?_
      clear hK K
      refine wpAnyU_ready (rs := [5]) (by kernel_rfl) (by simp) ?_
      refine AllReadyU.cons (o := _) rfl (fun K hK => ?_) AllReadyU.nil
      refine wp_strs _ _ rfl wX.heap.size (.slice (some ⟨q0, 0, none⟩) 0 0) (.slice (some ⟨g, o, none⟩) k c) [] (n.names.take k) wY2 rfl rfl HO2.out HB2.out.size (HSRC.out.1 _ HB2.out) (by have := HM.out; simp only [List.length_nil, List.length_take]; omega) ?_
      intro v34 wY3 ho hb hg
      rw [List.nil_append] at ho
      have HO3 : Hid (wY3.ownsRow wX.heap.size 9 1 v34 (n.names.take k).length (sc (n.names.take k))) := ho
      have HB3 : Hid (Below wX.heap.size wX wY3) := HB2.out.trans (hb.mono (Nat.le_refl _))
      have HS3 : Hid (Src wY3 (.slice (some ⟨qx, 0, none⟩) 1 1) [s]) := HS2.out.grown hg (fun e => HNE.out (by simpa [Value.ownBlock] using e))
      obtain ⟨a34, c34, hv34, _⟩ := row_form ho
      obtain ⟨n34, hn34⟩ : ∃ z, z = (n.names.take k).length := ⟨_, rfl⟩
      rw [← hn34] at hv34
      subst hv34
      clear ho hb hg hn34
      go_simp
      refine hK.out _ _ (fun _ _ => (HC.out _ HB3.out)) ?_
      clear hK K
      refine wpAnyU_ready (rs := [8]) (by kernel_rfl) (by simp) ?_
      refine AllReadyU.cons (o := _) rfl (fun K hK => ?_) AllReadyU.nil
      refine wp_strs _ _ rfl wX.heap.size (.slice a34 n34 c34) (.slice (some ⟨qx, 0, none⟩) 1 1) (n.names.take k) [s] wY3 rfl rfl HO3.out HB3.out.size HS3.out (by have := HM.out; simp only [List.length_singleton, List.length_take]; omega) ?_
      intro v35 wY4 ho hb hg
      have HO5 : Hid (wY4.ownsRow wX.heap.size 9 1 v35 (n.names.take k ++ [s]).length (sc (n.names.take k ++ [s]))) := ho
      have HB5 : Hid (Below wX.heap.size wX wY4) := HB3.out.trans (hb.mono (Nat.le_refl _))
      obtain ⟨a35, c35, hv35, _⟩ := row_form ho
      obtain ⟨n35, hn35⟩ : ∃ z, z = (n.names.take k ++ [s]).length := ⟨_, rfl⟩
      rw [← hn35] at hv35
      subst hv35
      clear ho hb hg hn35
      go_simp
      refine hK.out _ _ (fun _ _ => (HC.out _ HB5.out)) ?_
      clear hK K
      refine wpAnyU_ready (rs := [13]) (by kernel_rfl) (by simp) ?_
      refine AllReadyU.cons (o := _) rfl (fun K hK => ?_) AllReadyU.nil
      refine wp_strs _ _ rfl wX.heap.size (.slice a35 n35 c35) (.slice (if c = k then some ⟨g, o, none⟩ else some ⟨g, o + k, none⟩) (N - k) (c - k)) (n.names.take k ++ [s]) (n.names.drop k) wY4 rfl rfl HO5.out HB5.out.size (HSRC.out.2 _ HB5.out) (by have := HM.out; simp only [List.length_append, List.length_singleton, List.length_drop, List.length_take]; omega) ?_
      intro v42 wY5 ho hb hg
      have HO4 : Hid (wY5.ownsRow wX.heap.size 9 1 v42 (n.names.take k ++ [s] ++ n.names.drop k).length (sc (n.names.take k ++ [s] ++ n.names.drop k))) := ho
      have HB4 : Hid (Below wX.heap.size wX wY5) := HB5.out.trans (hb.mono (Nat.le_refl _))
      obtain ⟨a42, c42, hv42, _⟩ := row_form ho
      obtain ⟨n42, hn42⟩ : ∃ z, z = (n.names.take k ++ [s] ++ n.names.drop k).length := ⟨_, rfl⟩
      have HN42 : Hid (n42 = (n.names.take k ++ [s] ++ n.names.drop k).length) := hn42
      rw [← hn42] at hv42
      subst hv42
      clear ho hb hg hn42
      have HN3 : Hid (Cb wY5 w.heap.size (k10 n (.slice (some ⟨g, o, none⟩) N c)) 40) := HN.out.below HB4.out
      have HZ3 : Hid (Cb wY5 (w.heap.size + 1) (k10 Kq.zero (.slice none 0 0)) 40) := HZ.out.below HB4.out
      have HQ4 : Hid (wY5.cell? ⟨w.heap.size, 9, none⟩ = some (.slice (some ⟨g, o, none⟩) N c) ∧ wY5.frozen? ⟨w.heap.size, 9, none⟩ = false) := ⟨HC.out _ HB4.out, HN3.out.free 9⟩
      go_simp
      refine hK.out _ _ (fun _ _ => HQ4.out.1) ?_
      clear hK K
      refine' take_U (i := 14) (d := 31) (v := _) rfl rfl (by kernel_rfl) (by kernel_rfl) (by kernel_rfl) (by kernel_rfl) (by kernel_rfl) (by kernel_rfl) (fun _ _ _ h => h) (Or.inl ⟨by rfl, ?h14⟩) (HQ4.out.1) ?_
      case h14 => intro w hSw; go_simp; with_reducible rfl
      simp only [List.setIfInBounds_toArray, List.set_cons_zero, List.set_cons_succ]
      refine wpAnyU_ready (rs := [15]) (by kernel_rfl) (by simp) ?_
      refine AllReadyU.cons (o := _) rfl (fun K hK => ?_) AllReadyU.nil
      have hc := HQ4.out.1
      have hz := HQ4.out.2
      go_simp
      clear hc hz
      refine hK.out _ _ (fun h => absurd (by decide) h) ?_
      clear hK K
      refine wpAnyU_done (by kernel_rfl) ?_ _
      have HNz : Hid (Cb (wY5.setCell ⟨w.heap.size, 9, none⟩ (.slice a42 n42 c42)) w.heap.size (k10 n (.slice a42 n42 c42)) 40) := HN3.out.set 9 _
      have HZz : Hid (Cb (wY5.setCell ⟨w.heap.size, 9, none⟩ (.slice a42 n42 c42)) (w.heap.size + 1) (k10 Kq.zero (.slice none 0 0)) 40) := HZ3.out.keep (RowKit.Below.heap_setCell _ _ _ _ (by show w.heap.size + 1 ≠ w.heap.size; omega))
      have HRz : Hid ((wY5.setCell ⟨w.heap.size, 9, none⟩ (.slice a42 n42 c42)).ownsRow wX.heap.size 9 1 (.slice a42 n42 c42) (n.names.take k ++ [s] ++ n.names.drop k).length (sc (n.names.take k ++ [s] ++ n.names.drop k))) := row_stays HO4.out (fun x hx => RowKit.Below.heap_setCell _ _ _ _ (fun e => by have h1 := (HO4.out.lt x hx).1; have h2 := HWX.out; have h3 : x = w.heap.size := e; omega))
      have HBz : Hid (Below w.heap.size w (wY5.setCell ⟨w.heap.size, 9, none⟩ (.slice a42 n42 c42))) := (HBX.out.trans (HB4.out.mono HBX.out.size)).grown (grownBy_setCell _ _ _) (HBX.out.trans (HB4.out.mono HBX.out.size)).size (fun x hx => by simp at hx; omega)
      generalize wY5.setCell ⟨w.heap.size, 9, none⟩ (.slice a42 n42 c42) = wz at *
      clear HSRC
      generalize (if c = k then some (⟨g, o, none⟩ : Addr) else some ⟨g, o + k, none⟩) = au
      obtain ⟨c0, c1, c2, c3, c4, c5, c6, c7, c8, c9⟩ := ten_cells HNz.out
      obtain ⟨z0, z1, z2, z3, z4, z5, z6, z7, z8, z9⟩ := ten_cells HZz.out
      have f0 := HZz.out.free 0
      have f1 := HZz.out.free 1
      have f2 := HZz.out.free 2
      have f3 := HZz.out.free 3
      have f4 := HZz.out.free 4
      have f5 := HZz.out.free 5
      have f6 := HZz.out.free 6
      have f7 := HZz.out.free 7
      have f8 := HZz.out.free 8
      have f9 := HZz.out.free 9
      have e0 := HNz.out.free 0
      have e1 := HNz.out.free 1
      have e2 := HNz.out.free 2
      have e3 := HNz.out.free 3
      have e4 := HNz.out.free 4
      have e5 := HNz.out.free 5
      have e6 := HNz.out.free 6
      have e7 := HNz.out.free 7
      have e8 := HNz.out.free 8
      have e9 := HNz.out.free 9
      go_wp2_with fail
      refine (refMore_any n.kids _ HK.out.1).mono ?_
      rintro e w5 ⟨rfl, hw5⟩
      rw [hw5]
      clear hw5 w5
      go_wp2_with fail
      refine (refMore_any n.next _ HK.out.2).mono ?_
      rintro e w5 ⟨rfl, hw5⟩
      rw [hw5]
      clear hw5 w5
      go_wp2_with fail
      have hg1 : wz.grownBy (((wz.setCell ⟨w.heap.size, 3, none⟩ (.int .i64 (Kq.more n.kids))).setCell ⟨w.heap.size, 6, none⟩ (.int .i64 (n42 : Int))).setCell ⟨w.heap.size, 8, none⟩ (.int .i64 (Kq.more n.next))) (some w.heap.size) := (grown_set (grown_set (grown_set ⟨rfl, rfl, rfl, Nat.le_refl _, fun _ _ _ => rfl⟩ _) _) _)
      have hg2 := put10_grown (((wz.setCell ⟨w.heap.size, 3, none⟩ (.int .i64 (Kq.more n.kids))).setCell ⟨w.heap.size, 6, none⟩ (.int .i64 (n42 : Int))).setCell ⟨w.heap.size, 8, none⟩ (.int .i64 (Kq.more n.next))) (w.heap.size + 1) ({ n with kids := Kq.more n.kids, cnt := (n42 : Int), next := Kq.more n.next } : Kq.Kn) (.slice a42 n42 c42)
      have HX : Hid (Cb (put10 (((wz.setCell ⟨w.heap.size, 3, none⟩ (.int .i64 (Kq.more n.kids))).setCell ⟨w.heap.size, 6, none⟩ (.int .i64 (n42 : Int))).setCell ⟨w.heap.size, 8, none⟩ (.int .i64 (Kq.more n.next))) (w.heap.size + 1) ({ n with kids := Kq.more n.kids, cnt := (n42 : Int), next := Kq.more n.next } : Kq.Kn) (.slice a42 n42 c42)) (w.heap.size + 1) (k10 ({ n with kids := Kq.more n.kids, cnt := (n42 : Int), next := Kq.more n.next } : Kq.Kn) (.slice a42 n42 c42)) 40) := put10_cb (HZz.out.keep (hg1.block _ HZz.out.lt (fun e => by simp at e)))
      have HBX2 : Hid (Below w.heap.size w (put10 (((wz.setCell ⟨w.heap.size, 3, none⟩ (.int .i64 (Kq.more n.kids))).setCell ⟨w.heap.size, 6, none⟩ (.int .i64 (n42 : Int))).setCell ⟨w.heap.size, 8, none⟩ (.int .i64 (Kq.more n.next))) (w.heap.size + 1) ({ n with kids := Kq.more n.kids, cnt := (n42 : Int), next := Kq.more n.next } : Kq.Kn) (.slice a42 n42 c42))) := (HBz.out.grown hg1 HBz.out.size (fun k hk => by simp at hk; omega)).grown hg2 (Nat.le_trans HBz.out.size hg1.size) (fun k hk => by simp at hk; omega)
      have HRX : Hid ((put10 (((wz.setCell ⟨w.heap.size, 3, none⟩ (.int .i64 (Kq.more n.kids))).setCell ⟨w.heap.size, 6, none⟩ (.int .i64 (n42 : Int))).setCell ⟨w.heap.size, 8, none⟩ (.int .i64 (Kq.more n.next))) (w.heap.size + 1) ({ n with kids := Kq.more n.kids, cnt := (n42 : Int), next := Kq.more n.next } : Kq.Kn) (.slice a42 n42 c42)).ownsRow wX.heap.size 9 1 (.slice a42 n42 c42) (n.names.take k ++ [s] ++ n.names.drop k).length (sc (n.names.take k ++ [s] ++ n.names.drop k))) := row_stays HRz.out (fun x hx => by
        have h1 := HRz.out.lt x hx
        have h2 := HWX.out
        rw [hg2.block x (Nat.lt_of_lt_of_le h1.2 hg1.size) (fun e => by simp at e; omega), hg1.block x h1.2 (fun e => by simp at e; omega)])
      unfold put10 at HX HBX2 HRX
      simp only [] at HX HBX2 HRX
      clear hg1 hg2
      generalize (((((((((((((wz.setCell ⟨w.heap.size, 3, none⟩ (.int .i64 (Kq.more n.kids))).setCell ⟨w.heap.size, 6, none⟩ (.int .i64 (n42 : Int))).setCell ⟨w.heap.size, 8, none⟩ (.int .i64 (Kq.more n.next))).setCell ⟨w.heap.size + 1, 0, none⟩ (.int .i64 n.made)).setCell ⟨w.heap.size + 1, 1, none⟩ (.int .i64 n.changed)).setCell ⟨w.heap.size + 1, 2, none⟩ (.int .i64 n.ver)).setCell ⟨w.heap.size + 1, 3, none⟩ (.int .i64 (Kq.more n.kids))).setCell ⟨w.heap.size + 1, 4, none⟩ (.int .i64 n.owner)).setCell ⟨w.heap.size + 1, 5, none⟩ (.int .i64 n.len)).setCell ⟨w.heap.size + 1, 6, none⟩ (.int .i64 (n42 : Int))).setCell ⟨w.heap.size + 1, 7, none⟩ (.string n.data)).setCell ⟨w.heap.size + 1, 8, none⟩ (.int .i64 (Kq.more n.next))).setCell ⟨w.heap.size + 1, 9, none⟩ (.slice a42 n42 c42)) = wy at *
      clear c0 c1 c2 c3 c4 c5 c6 c7 c8 c9 z0 z1 z2 z3 z4 z5 z6 z7 z8 z9 f0 f1 f2 f3 f4 f5 f6 f7 f8 f9 e0 e1 e2 e3 e4 e5 e6 e7 e8 e9
      refine bodyPost_ret (v := .tuple #[.agg #[.int .i64 n.made, .int .i64 n.changed, .int .i64 n.ver, .int .i64 (Kq.more n.kids), .int .i64 n.owner, .int .i64 n.len, .int .i64 (n42 : Int), .string n.data, .int .i64 (Kq.more n.next), .slice a42 n42 c42], .bool true]) ?_ rfl ?_
      · obtain ⟨c0, c1, c2, c3, c4, c5, c6, c7, c8, c9⟩ := ten_cells HX.out
        simp only [] at c0 c1 c2 c3 c4 c5 c6 c7 c8 c9
        rw [results_cell_tmp rfl]
        go_simp
      · have e : (n42 : Int) = ((n.names.length + 1 : Nat) : Int) := by
          have h1 := HN42.out
          have h2 := HM.out
          rw [List.length_append, List.length_append, List.length_take, List.length_drop, List.length_singleton] at h1
          omega
        refine ⟨a42, n42, c42, ?_, ?_, fun x hx => (by have h1 := (HRX.out.lt x hx).1; have h2 := HWX.out; omega), HBX2.out⟩
        · rw [HADD.out, e]
        · rw [HADD.out]
          have e2 := Nm.of_row HRX.out
          exact e2
  · go_simp
    obtain ⟨qx, hqx⟩ : ∃ z, z = wX.heap.size := ⟨_, rfl⟩
    rw [← hqx]
    have HB1 : Hid (Below wX.heap.size wX (wX.alloc (.cells #[.string s] 9))) := HB0.out.alloc HB0.out.size _
    have HS1 : Hid (Src (wX.alloc (.cells #[.string s] 9)) (.slice (some ⟨qx, 0, none⟩) 1 1) [s]) := by rw [hqx]; exact Src.one wX s _
    have HQ1 : Hid (qx < (wX.alloc (.cells #[.string s] 9)).heap.size) := by
      have e : qx < (wX.alloc (.cells #[.string s] 9)).heap.size := by rw [hqx]; simp
      exact e
    clear hqx
    generalize wX.alloc (.cells #[.string s] 9) = wY1 at *
    refine hK.out _ _ (fun _ _ => (HC.out _ HB1.out)) ?_
    clear hK K
    refine wpAnyU_ready (rs := [0]) (by kernel_rfl) (by simp) ?_
    refine AllReadyU.cons (o := _) rfl (fun K hK => ?_) AllReadyU.nil
    go_simp
    obtain ⟨q0, hqq⟩ : ∃ z, z = wY1.heap.size := ⟨_, rfl⟩
    rw [← hqq]
    have HB2 : Hid (Below wX.heap.size wX (wY1.alloc (.cells #[] 9))) := HB1.out.alloc HB1.out.size _
    have HO2 : Hid ((wY1.alloc (.cells #[] 9)).ownsRow wX.heap.size 9 1 (.slice (some ⟨q0, 0, none⟩) 0 0) ([] : List ByteArray).length (sc [])) := by rw [hqq]; exact World.ownsRow_made wY1 #[] 0 HB1.out.size (by decide) rfl
    have HS2 : Hid (Src (wY1.alloc (.cells #[] 9)) (.slice (some ⟨qx, 0, none⟩) 1 1) [s]) := HS1.out.below ((Below.refl _ _).alloc (Nat.le_refl _) _)
    have HNE : Hid (q0 ≠ qx) := by
      have e := HQ1.out
      have e2 : q0 ≠ qx := by omega
      exact e2
    clear hqq
    generalize wY1.alloc (.cells #[] 9) = wY2 at *
    refine hK.out _ _ (fun _ _ => (HC.out _ HB2.out)) ?_
    clear hK K
    refine wpAnyU_ready (rs := [5]) (by kernel_rfl) (by simp) ?_
    refine AllReadyU.cons (o := _) rfl (fun K hK => ?_) AllReadyU.nil
    refine wp_strs _ _ rfl wX.heap.size (.slice (some ⟨q0, 0, none⟩) 0 0) (.slice (some ⟨g, o, none⟩) k c) [] (n.names.take k) wY2 rfl rfl HO2.out HB2.out.size (HSRC.out.1 _ HB2.out) (by have := HM.out; simp only [List.length_nil, List.length_take]; omega) ?_
    intro v34 wY3 ho hb hg
    rw [List.nil_append] at ho
    have HO3 : Hid (wY3.ownsRow wX.heap.size 9 1 v34 (n.names.take k).length (sc (n.names.take k))) := ho
    have HB3 : Hid (Below wX.heap.size wX wY3) := HB2.out.trans (hb.mono (Nat.le_refl _))
    have HS3 : Hid (Src wY3 (.slice (some ⟨qx, 0, none⟩) 1 1) [s]) := HS2.out.grown hg (fun e => HNE.out (by simpa [Value.ownBlock] using e))
    obtain ⟨a34, c34, hv34, _⟩ := row_form ho
    obtain ⟨n34, hn34⟩ : ∃ z, z = (n.names.take k).length := ⟨_, rfl⟩
    rw [← hn34] at hv34
    subst hv34
    clear ho hb hg hn34
    go_simp
    refine hK.out _ _ (fun _ _ => (HC.out _ HB3.out)) ?_
    clear hK K
    refine wpAnyU_ready (rs := [8]) (by kernel_rfl) (by simp) ?_
    refine AllReadyU.cons (o := _) rfl (fun K hK => ?_) AllReadyU.nil
    refine wp_strs _ _ rfl wX.heap.size (.slice a34 n34 c34) (.slice (some ⟨qx, 0, none⟩) 1 1) (n.names.take k) [s] wY3 rfl rfl HO3.out HB3.out.size HS3.out (by have := HM.out; simp only [List.length_singleton, List.length_take]; omega) ?_
    intro v35 wY4 ho hb hg
    have HO5 : Hid (wY4.ownsRow wX.heap.size 9 1 v35 (n.names.take k ++ [s]).length (sc (n.names.take k ++ [s]))) := ho
    have HB5 : Hid (Below wX.heap.size wX wY4) := HB3.out.trans (hb.mono (Nat.le_refl _))
    obtain ⟨a35, c35, hv35, _⟩ := row_form ho
    obtain ⟨n35, hn35⟩ : ∃ z, z = (n.names.take k ++ [s]).length := ⟨_, rfl⟩
    rw [← hn35] at hv35
    subst hv35
    clear ho hb hg hn35
    go_simp
    refine hK.out _ _ (fun _ _ => (HC.out _ HB5.out)) ?_
    clear hK K
    refine wpAnyU_ready (rs := [13]) (by kernel_rfl) (by simp) ?_
    refine AllReadyU.cons (o := _) rfl (fun K hK => ?_) AllReadyU.nil
    refine wp_strs _ _ rfl wX.heap.size (.slice a35 n35 c35) (.slice (if c = k then some ⟨g, o, none⟩ else some ⟨g, o + k, none⟩) (N - k) (c - k)) (n.names.take k ++ [s]) (n.names.drop k) wY4 rfl rfl HO5.out HB5.out.size (HSRC.out.2 _ HB5.out) (by have := HM.out; simp only [List.length_append, List.length_singleton, List.length_drop, List.length_take]; omega) ?_
    intro v42 wY5 ho hb hg
    have HO4 : Hid (wY5.ownsRow wX.heap.size 9 1 v42 (n.names.take k ++ [s] ++ n.names.drop k).length (sc (n.names.take k ++ [s] ++ n.names.drop k))) := ho
    have HB4 : Hid (Below wX.heap.size wX wY5) := HB5.out.trans (hb.mono (Nat.le_refl _))
    obtain ⟨a42, c42, hv42, _⟩ := row_form ho
    obtain ⟨n42, hn42⟩ : ∃ z, z = (n.names.take k ++ [s] ++ n.names.drop k).length := ⟨_, rfl⟩
    have HN42 : Hid (n42 = (n.names.take k ++ [s] ++ n.names.drop k).length) := hn42
    rw [← hn42] at hv42
    subst hv42
    clear ho hb hg hn42
    have HN3 : Hid (Cb wY5 w.heap.size (k10 n (.slice (some ⟨g, o, none⟩) N c)) 40) := HN.out.below HB4.out
    have HZ3 : Hid (Cb wY5 (w.heap.size + 1) (k10 Kq.zero (.slice none 0 0)) 40) := HZ.out.below HB4.out
    have HQ4 : Hid (wY5.cell? ⟨w.heap.size, 9, none⟩ = some (.slice (some ⟨g, o, none⟩) N c) ∧ wY5.frozen? ⟨w.heap.size, 9, none⟩ = false) := ⟨HC.out _ HB4.out, HN3.out.free 9⟩
    go_simp
    refine hK.out _ _ (fun _ _ => HQ4.out.1) ?_
    clear hK K
    refine' take_U (i := 14) (d := 31) (v := _) rfl rfl (by kernel_rfl) (by kernel_rfl) (by kernel_rfl) (by kernel_rfl) (by kernel_rfl) (by kernel_rfl) (fun _ _ _ h => h) (Or.inl ⟨by rfl, ?h14⟩) (HQ4.out.1) ?_
    case h14 => intro w hSw; go_simp; with_reducible rfl
    simp only [List.setIfInBounds_toArray, List.set_cons_zero, List.set_cons_succ]
    refine wpAnyU_ready (rs := [15]) (by kernel_rfl) (by simp) ?_
    refine AllReadyU.cons (o := _) rfl (fun K hK => ?_) AllReadyU.nil
    have hc := HQ4.out.1
    have hz := HQ4.out.2
    go_simp
    clear hc hz
    refine hK.out _ _ (fun h => absurd (by decide) h) ?_
    clear hK K
    refine wpAnyU_done (by kernel_rfl) ?_ _
    have HNz : Hid (Cb (wY5.setCell ⟨w.heap.size, 9, none⟩ (.slice a42 n42 c42)) w.heap.size (k10 n (.slice a42 n42 c42)) 40) := HN3.out.set 9 _
    have HZz : Hid (Cb (wY5.setCell ⟨w.heap.size, 9, none⟩ (.slice a42 n42 c42)) (w.heap.size + 1) (k10 Kq.zero (.slice none 0 0)) 40) := HZ3.out.keep (RowKit.Below.heap_setCell _ _ _ _ (by show w.heap.size + 1 ≠ w.heap.size; omega))
    have HRz : Hid ((wY5.setCell ⟨w.heap.size, 9, none⟩ (.slice a42 n42 c42)).ownsRow wX.heap.size 9 1 (.slice a42 n42 c42) (n.names.take k ++ [s] ++ n.names.drop k).length (sc (n.names.take k ++ [s] ++ n.names.drop k))) := row_stays HO4.out (fun x hx => RowKit.Below.heap_setCell _ _ _ _ (fun e => by have h1 := (HO4.out.lt x hx).1; have h2 := HWX.out; have h3 : x = w.heap.size := e; omega))
    have HBz : Hid (Below w.heap.size w (wY5.setCell ⟨w.heap.size, 9, none⟩ (.slice a42 n42 c42))) := (HBX.out.trans (HB4.out.mono HBX.out.size)).grown (grownBy_setCell _ _ _) (HBX.out.trans (HB4.out.mono HBX.out.size)).size (fun x hx => by simp at hx; omega)
    generalize wY5.setCell ⟨w.heap.size, 9, none⟩ (.slice a42 n42 c42) = wz at *
    clear HSRC
    generalize (if c = k then some (⟨g, o, none⟩ : Addr) else some ⟨g, o + k, none⟩) = au
    obtain ⟨c0, c1, c2, c3, c4, c5, c6, c7, c8, c9⟩ := ten_cells HNz.out
    obtain ⟨z0, z1, z2, z3, z4, z5, z6, z7, z8, z9⟩ := ten_cells HZz.out
    have f0 := HZz.out.free 0
    have f1 := HZz.out.free 1
    have f2 := HZz.out.free 2
    have f3 := HZz.out.free 3
    have f4 := HZz.out.free 4
    have f5 := HZz.out.free 5
    have f6 := HZz.out.free 6
    have f7 := HZz.out.free 7
    have f8 := HZz.out.free 8
    have f9 := HZz.out.free 9
    have e0 := HNz.out.free 0
    have e1 := HNz.out.free 1
    have e2 := HNz.out.free 2
    have e3 := HNz.out.free 3
    have e4 := HNz.out.free 4
    have e5 := HNz.out.free 5
    have e6 := HNz.out.free 6
    have e7 := HNz.out.free 7
    have e8 := HNz.out.free 8
    have e9 := HNz.out.free 9
    go_wp2_with fail
    refine (refMore_any n.kids _ HK.out.1).mono ?_
    rintro e w5 ⟨rfl, hw5⟩
    rw [hw5]
    clear hw5 w5
    go_wp2_with fail
    refine (refMore_any n.next _ HK.out.2).mono ?_
    rintro e w5 ⟨rfl, hw5⟩
    rw [hw5]
    clear hw5 w5
    go_wp2_with fail
    have hg1 : wz.grownBy (((wz.setCell ⟨w.heap.size, 3, none⟩ (.int .i64 (Kq.more n.kids))).setCell ⟨w.heap.size, 6, none⟩ (.int .i64 (n42 : Int))).setCell ⟨w.heap.size, 8, none⟩ (.int .i64 (Kq.more n.next))) (some w.heap.size) := (grown_set (grown_set (grown_set ⟨rfl, rfl, rfl, Nat.le_refl _, fun _ _ _ => rfl⟩ _) _) _)
    have hg2 := put10_grown (((wz.setCell ⟨w.heap.size, 3, none⟩ (.int .i64 (Kq.more n.kids))).setCell ⟨w.heap.size, 6, none⟩ (.int .i64 (n42 : Int))).setCell ⟨w.heap.size, 8, none⟩ (.int .i64 (Kq.more n.next))) (w.heap.size + 1) ({ n with kids := Kq.more n.kids, cnt := (n42 : Int), next := Kq.more n.next } : Kq.Kn) (.slice a42 n42 c42)
    have HX : Hid (Cb (put10 (((wz.setCell ⟨w.heap.size, 3, none⟩ (.int .i64 (Kq.more n.kids))).setCell ⟨w.heap.size, 6, none⟩ (.int .i64 (n42 : Int))).setCell ⟨w.heap.size, 8, none⟩ (.int .i64 (Kq.more n.next))) (w.heap.size + 1) ({ n with kids := Kq.more n.kids, cnt := (n42 : Int), next := Kq.more n.next } : Kq.Kn) (.slice a42 n42 c42)) (w.heap.size + 1) (k10 ({ n with kids := Kq.more n.kids, cnt := (n42 : Int), next := Kq.more n.next } : Kq.Kn) (.slice a42 n42 c42)) 40) := put10_cb (HZz.out.keep (hg1.block _ HZz.out.lt (fun e => by simp at e)))
    have HBX2 : Hid (Below w.heap.size w (put10 (((wz.setCell ⟨w.heap.size, 3, none⟩ (.int .i64 (Kq.more n.kids))).setCell ⟨w.heap.size, 6, none⟩ (.int .i64 (n42 : Int))).setCell ⟨w.heap.size, 8, none⟩ (.int .i64 (Kq.more n.next))) (w.heap.size + 1) ({ n with kids := Kq.more n.kids, cnt := (n42 : Int), next := Kq.more n.next } : Kq.Kn) (.slice a42 n42 c42))) := (HBz.out.grown hg1 HBz.out.size (fun k hk => by simp at hk; omega)).grown hg2 (Nat.le_trans HBz.out.size hg1.size) (fun k hk => by simp at hk; omega)
    have HRX : Hid ((put10 (((wz.setCell ⟨w.heap.size, 3, none⟩ (.int .i64 (Kq.more n.kids))).setCell ⟨w.heap.size, 6, none⟩ (.int .i64 (n42 : Int))).setCell ⟨w.heap.size, 8, none⟩ (.int .i64 (Kq.more n.next))) (w.heap.size + 1) ({ n with kids := Kq.more n.kids, cnt := (n42 : Int), next := Kq.more n.next } : Kq.Kn) (.slice a42 n42 c42)).ownsRow wX.heap.size 9 1 (.slice a42 n42 c42) (n.names.take k ++ [s] ++ n.names.drop k).length (sc (n.names.take k ++ [s] ++ n.names.drop k))) := row_stays HRz.out (fun x hx => by
      have h1 := HRz.out.lt x hx
      have h2 := HWX.out
      rw [hg2.block x (Nat.lt_of_lt_of_le h1.2 hg1.size) (fun e => by simp at e; omega), hg1.block x h1.2 (fun e => by simp at e; omega)])
    unfold put10 at HX HBX2 HRX
    simp only [] at HX HBX2 HRX
    clear hg1 hg2
    generalize (((((((((((((wz.setCell ⟨w.heap.size, 3, none⟩ (.int .i64 (Kq.more n.kids))).setCell ⟨w.heap.size, 6, none⟩ (.int .i64 (n42 : Int))).setCell ⟨w.heap.size, 8, none⟩ (.int .i64 (Kq.more n.next))).setCell ⟨w.heap.size + 1, 0, none⟩ (.int .i64 n.made)).setCell ⟨w.heap.size + 1, 1, none⟩ (.int .i64 n.changed)).setCell ⟨w.heap.size + 1, 2, none⟩ (.int .i64 n.ver)).setCell ⟨w.heap.size + 1, 3, none⟩ (.int .i64 (Kq.more n.kids))).setCell ⟨w.heap.size + 1, 4, none⟩ (.int .i64 n.owner)).setCell ⟨w.heap.size + 1, 5, none⟩ (.int .i64 n.len)).setCell ⟨w.heap.size + 1, 6, none⟩ (.int .i64 (n42 : Int))).setCell ⟨w.heap.size + 1, 7, none⟩ (.string n.data)).setCell ⟨w.heap.size + 1, 8, none⟩ (.int .i64 (Kq.more n.next))).setCell ⟨w.heap.size + 1, 9, none⟩ (.slice a42 n42 c42)) = wy at *
    clear c0 c1 c2 c3 c4 c5 c6 c7 c8 c9 z0 z1 z2 z3 z4 z5 z6 z7 z8 z9 f0 f1 f2 f3 f4 f5 f6 f7 f8 f9 e0 e1 e2 e3 e4 e5 e6 e7 e8 e9
    refine bodyPost_ret (v := .tuple #[.agg #[.int .i64 n.made, .int .i64 n.changed, .int .i64 n.ver, .int .i64 (Kq.more n.kids), .int .i64 n.owner, .int .i64 n.len, .int .i64 (n42 : Int), .string n.data, .int .i64 (Kq.more n.next), .slice a42 n42 c42], .bool true]) ?_ rfl ?_
    · obtain ⟨c0, c1, c2, c3, c4, c5, c6, c7, c8, c9⟩ := ten_cells HX.out
      simp only [] at c0 c1 c2 c3 c4 c5 c6 c7 c8 c9
      rw [results_cell_tmp rfl]
      go_simp
    · have e : (n42 : Int) = ((n.names.length + 1 : Nat) : Int) := by
        have h1 := HN42.out
        have h2 := HM.out
        rw [List.length_append, List.length_append, List.length_take, List.length_drop, List.length_singleton] at h1
        omega
      refine ⟨a42, n42, c42, ?_, ?_, fun x hx => (by have h1 := (HRX.out.lt x hx).1; have h2 := HWX.out; omega), HBX2.out⟩
      · rw [HADD.out, e]
      · rw [HADD.out]
        have e2 := Nm.of_row HRX.out
        exact e2
theorem refAdd_any (n : Kq.Kn) (a : Option Addr) (L c : Nat) (s : ByteArray) (w : World) (h : Nm w (.slice a L c) n.names) (hf : Fine10 n) (hr : Kq.Rises n.names) :
    Calls Try.prog 22 #[kv n (.slice a L c), .string s] w fun e w' => ∃ a' L' c', e = .returned (.tuple #[kv (Kq.add n s) (.slice a' L' c'), .bool (!Kq.has n.names s)]) ∧ Nm w' (.slice a' L' c') (Kq.add n s).names ∧ (New10 w (.slice a' L' c') ∨ (Value.slice a' L' c' = .slice a L c ∧ Kq.add n s = n)) ∧ Below w.heap.size w w' := by
  cases hh : Kq.has n.names s with
  | true =>
    refine (refAdd_no n a L c s w h hf hr hh).mono ?_
    rintro e w' ⟨rfl, hb⟩
    have e := Kq.add_no hh
    rw [e]
    exact ⟨a, L, c, rfl, h.below hb, Or.inr ⟨rfl, rfl⟩, hb⟩
  | false =>
    rcases h with ⟨e1, e2⟩ | ⟨g, o, c', e1, e2, e3⟩
    · simp only [Value.slice.injEq] at e1
      obtain ⟨rfl, rfl, rfl⟩ := e1
      refine (refAdd_none n 0 0 _ s w (Or.inl ⟨rfl, e2⟩) ⟨by rw [e2]; rfl, Nat.le_refl _, rfl, rfl⟩ hf hr hh rfl).mono ?_
      rintro e w' ⟨a', L', c', rfl, h1, h2, hb⟩
      exact ⟨a', L', c', rfl, h1, Or.inl h2, hb⟩
    · simp only [Value.slice.injEq] at e1
      obtain ⟨rfl, rfl, rfl⟩ := e1
      refine (refAdd_some n g o _ _ _ s w (Or.inr ⟨g, o, _, rfl, e2, e3⟩) ⟨rfl, e2⟩ hf hr hh rfl).mono ?_
      rintro e w' ⟨a', L', c', rfl, h1, h2, hb⟩
      exact ⟨a', L', c', rfl, h1, Or.inl h2, hb⟩
end Go.Proofs.Ytlgpjgncimcijaa
