/- What the reference's Add and Remove answer. -/
import Derived.Test.YtlgpjgncimcijaaRefB10
import Derived.Test.YtlgpjgncimcijaaHeld2
import Derived.Deep.DeepCutAuto
namespace Go.Proofs.Ytlgpjgncimcijaa
open Go.RowKit

set_option maxRecDepth 20000 in
set_option maxHeartbeats 4000000 in
theorem refRemove_no (n : Kq.Kn) (a : Option Addr) (L c : Nat) (s : ByteArray) (w : World) (h : Nm w (.slice a L c) n.names) (hf : Fine10 n) (hr : Kq.Rises n.names) (hh : Kq.has n.names s = false) :
    Calls Try.prog 23 #[kv n (.slice a L c), .string s] w fun e w' => e = .returned (.tuple #[kv n (.slice a L c), .bool false]) ∧ Below w.heap.size w w' := by
  have HP : Hid (∀ w', Below w.heap.size w w' → Calls Try.prog 41 #[.slice a L c, .string s] w' fun e w1 => e = .returned (.tuple #[.int .i64 ((Kq.low n.names s).length : Int), .bool false]) ∧ Below w'.heap.size w' w1) := fun w' hb => by
    have := refPlace_any (.slice a L c) n.names s w' (h.below hb).ss (by have := hf.many; omega) hr
    rw [hh] at this
    exact this
  unfold kv
  clear h hh hf hr
  go_enter Try.func23, Try.ntmps23
  go_wp2_with fail
  have HB0 : Hid (Below w.heap.size w ((w.alloc (.cells (k10 n (.slice a L c)).toArray 40)).alloc (.cells (k10 Kq.zero (.slice none 0 0)).toArray 40))) := ((Below.refl _ w).alloc (Nat.le_refl _) _).alloc ((Below.refl _ w).alloc (Nat.le_refl _) _).size _
  refine (HP.out _ HB0.out).mono ?_
  rintro e w1 ⟨rfl, hb⟩
  have HB1 : Hid (Below w.heap.size w w1) := HB0.out.trans (hb.mono HB0.out.size)
  have hs1 : (w.alloc (.cells (k10 n (.slice a L c)).toArray 40)).heap.size = w.heap.size + 1 := by simp
  have HN : Hid (Cb w1 w.heap.size (k10 n (.slice a L c)) 40) := ((Cb.made w (k10 n (.slice a L c)) 40).below ((Below.refl _ _).alloc (Nat.le_refl _) _)).below hb
  have HZ : Hid (Cb w1 (w.heap.size + 1) (k10 Kq.zero (.slice none 0 0)) 40) := by
    have e := (Cb.made (w.alloc (.cells (k10 n (.slice a L c)).toArray 40)) (k10 Kq.zero (.slice none 0 0)) 40).below hb
    rw [hs1] at e
    exact e
  clear hb hs1
  obtain ⟨c0, c1, c2, c3, c4, c5, c6, c7, c8, c9⟩ := ten_cells HN.out
  obtain ⟨z0, z1, z2, z3, z4, z5, z6, z7, z8, z9⟩ := ten_cells HZ.out
  have f0 := HZ.out.free 0
  have f1 := HZ.out.free 1
  have f2 := HZ.out.free 2
  have f3 := HZ.out.free 3
  have f4 := HZ.out.free 4
  have f5 := HZ.out.free 5
  have f6 := HZ.out.free 6
  have f7 := HZ.out.free 7
  have f8 := HZ.out.free 8
  have f9 := HZ.out.free 9
  go_wp2_with fail
  have HX : Hid (Cb (put10 w1 (w.heap.size + 1) n (.slice a L c)) (w.heap.size + 1) (k10 n (.slice a L c)) 40) := put10_cb HZ.out
  have HBX : Hid (Below w.heap.size w (put10 w1 (w.heap.size + 1) n (.slice a L c))) := HB1.out.grown (put10_grown _ _ _ _) HB1.out.size (fun k hk => by simp at hk; omega)
  unfold put10 at HX HBX
  generalize ((((((((((w1.setCell ⟨w.heap.size + 1, 0, none⟩ (.int .i64 n.made)).setCell ⟨w.heap.size + 1, 1, none⟩ (.int .i64 n.changed)).setCell ⟨w.heap.size + 1, 2, none⟩ (.int .i64 n.ver)).setCell ⟨w.heap.size + 1, 3, none⟩ (.int .i64 n.kids)).setCell ⟨w.heap.size + 1, 4, none⟩ (.int .i64 n.owner)).setCell ⟨w.heap.size + 1, 5, none⟩ (.int .i64 n.len)).setCell ⟨w.heap.size + 1, 6, none⟩ (.int .i64 n.cnt)).setCell ⟨w.heap.size + 1, 7, none⟩ (.string n.data)).setCell ⟨w.heap.size + 1, 8, none⟩ (.int .i64 n.next)).setCell ⟨w.heap.size + 1, 9, none⟩ (.slice a L c)) = wy at *
  clear c0 c1 c2 c3 c4 c5 c6 c7 c8 c9 z0 z1 z2 z3 z4 z5 z6 z7 z8 z9 f0 f1 f2 f3 f4 f5 f6 f7 f8 f9
  refine bodyPost_ret (v := .tuple #[.agg #[.int .i64 n.made, .int .i64 n.changed, .int .i64 n.ver, .int .i64 n.kids, .int .i64 n.owner, .int .i64 n.len, .int .i64 n.cnt, .string n.data, .int .i64 n.next, .slice a L c], .bool false]) ?_ rfl ⟨rfl, HBX.out⟩
  obtain ⟨c0, c1, c2, c3, c4, c5, c6, c7, c8, c9⟩ := ten_cells HX.out
  rw [results_cell_tmp rfl]
  go_simp
-- here
set_option maxRecDepth 20000 in
set_option maxHeartbeats 8000000 in
theorem refRemove_yes (n : Kq.Kn) (a : Option Addr) (L c : Nat) (s : ByteArray) (w : World) (h : Nm w (.slice a L c) n.names) (hf : Fine10 n) (hr : Kq.Rises n.names) (hh : Kq.has n.names s = true) :
    Calls Try.prog 23 #[kv n (.slice a L c), .string s] w fun e w' => ∃ a' L' c', e = .returned (.tuple #[kv (Kq.remove n s) (.slice a' L' c'), .bool true]) ∧ Nm w' (.slice a' L' c') (Kq.remove n s).names ∧ New10 w (.slice a' L' c') ∧ Below w.heap.size w w' := by
  obtain ⟨hd, hk⟩ := Kq.del_cut hr (Kq.has_iff.1 hh)
  have HREM : Hid (Kq.remove n s = { n with names := n.names.take (Kq.low n.names s).length ++ n.names.drop ((Kq.low n.names s).length + 1), kids := Kq.more n.kids, cnt := ((n.names.length - 1 : Nat) : Int) }) := by
    have e := Kq.remove_yes hh
    rw [hd] at e
    exact e
  have HP : Hid (∀ w', Below w.heap.size w w' → Calls Try.prog 41 #[.slice a L c, .string s] w' fun e w1 => e = .returned (.tuple #[.int .i64 ((Kq.low n.names s).length : Int), .bool true]) ∧ Below w'.heap.size w' w1) := fun w' hb => by
    have := refPlace_any (.slice a L c) n.names s w' (h.below hb).ss (by have := hf.many; omega) hr
    rw [hh] at this
    exact this
  have HK : Hid (-9223372036854775808 ≤ n.kids ∧ n.kids ≤ 9223372036854775807) := hf.kids
  generalize (Kq.low n.names s).length = k at *
  obtain ⟨N, hN⟩ : ∃ N, N = n.names.length := ⟨_, rfl⟩
  have HM : Hid (N = n.names.length ∧ N ≤ 1000 ∧ k < N) := ⟨hN, by rw [hN]; exact hf.many, by rw [hN]; exact hk⟩
  obtain ⟨g, o, hs, hLc, hcell⟩ : ∃ g o, Value.slice a L c = .slice (some ⟨g, o, none⟩) N c ∧ N ≤ c ∧ ∀ (j : Nat) s, n.names[j]? = some s → w.cell? ⟨g, o + j, none⟩ = some (.string s) := by
    rcases h with ⟨_, e⟩ | ⟨g, o, c', e, h1, h2⟩
    · rw [e] at hk
      exact absurd hk (Nat.not_lt_zero _)
    · simp only [Value.slice.injEq] at e
      obtain ⟨rfl, rfl, rfl⟩ := e
      exact ⟨g, o, by rw [hN], by rw [hN]; exact h1, h2⟩
  rw [hs] at HP ⊢
  have HCELL : Hid (∀ (j : Nat) s, n.names[j]? = some s → w.cell? ⟨g, o + j, none⟩ = some (.string s)) := hcell
  have hkN : k < N := by rw [hN]; exact hk
  clear h hh hf hr hd hk hs hcell hN a L
  have k0 : (0 : Int) ≤ (k : Int) := by omega
  have kN : (k : Int) ≤ (N : Int) := by omega
  have kc : (k : Int) ≤ (c : Int) := by omega
  have k10' : (0 : Int) ≤ (k : Int) + 1 := by omega
  have k1N : (k : Int) + 1 ≤ (N : Int) := by omega
  have k1c : (k : Int) + 1 ≤ (c : Int) := by omega
  have hw1 : IntKind.wrap .i64 ((k : Int) + 1) = (k : Int) + 1 := by have := HM.out.2; rw [IntKind.wrap_i64]; omega
  unfold kv
  go_enter Try.func23, Try.ntmps23
  go_wp2_with fail
  have HB0 : Hid (Below w.heap.size w ((w.alloc (.cells (k10 n (.slice (some ⟨g, o, none⟩) N c)).toArray 40)).alloc (.cells (k10 Kq.zero (.slice none 0 0)).toArray 40))) := ((Below.refl _ w).alloc (Nat.le_refl _) _).alloc ((Below.refl _ w).alloc (Nat.le_refl _) _).size _
  refine (HP.out _ HB0.out).mono ?_
  rintro e w1 ⟨rfl, hb⟩
  have HB1 : Hid (Below w.heap.size w w1) := HB0.out.trans (hb.mono HB0.out.size)
  have hs1 : (w.alloc (.cells (k10 n (.slice (some ⟨g, o, none⟩) N c)).toArray 40)).heap.size = w.heap.size + 1 := by simp
  have HN1 : Hid (Cb w1 w.heap.size (k10 n (.slice (some ⟨g, o, none⟩) N c)) 40) := ((Cb.made w (k10 n (.slice (some ⟨g, o, none⟩) N c)) 40).below ((Below.refl _ _).alloc (Nat.le_refl _) _)).below hb
  have HZ1 : Hid (Cb w1 (w.heap.size + 1) (k10 Kq.zero (.slice none 0 0)) 40) := by
    have e := (Cb.made (w.alloc (.cells (k10 n (.slice (some ⟨g, o, none⟩) N c)).toArray 40)) (k10 Kq.zero (.slice none 0 0)) 40).below hb
    rw [hs1] at e
    exact e
  clear hb hs1
  go_wp2_with fail
  refine wp_region_U (fun w' => w'.cell? ⟨w.heap.size, 9, none⟩ = some (.slice (some ⟨g, o, none⟩) N c)) [13] (by kernel_rfl) ?_
  have HBX : Hid (Below w.heap.size w w1.drew) := HB1.out.drew
  have HN : Hid (Cb w1.drew w.heap.size (k10 n (.slice (some ⟨g, o, none⟩) N c)) 40) := HN1.out
  have HZ : Hid (Cb w1.drew (w.heap.size + 1) (k10 Kq.zero (.slice none 0 0)) 40) := HZ1.out
  have HWX : Hid (w.heap.size + 1 < w1.drew.heap.size) := HZ.out.lt
  generalize w1.drew = wX at *
  clear HN1 HZ1 HB0 HB1 HP
  have HC : Hid (∀ w', Below wX.heap.size wX w' → w'.cell? ⟨w.heap.size, 9, none⟩ = some (.slice (some ⟨g, o, none⟩) N c)) := fun w' hb => Below.kept hb (HN.out.cell 9)
  have HSX : Hid (wX.cell? ⟨w.heap.size, 9, none⟩ = some (.slice (some ⟨g, o, none⟩) N c)) := HC.out _ (Below.refl _ _)
  have HS1 : Hid (∀ w', Below wX.heap.size wX w' → Src w' (.slice (some ⟨g, o, none⟩) k c) (n.names.take k)) := fun w' hb => by
    have hm := HM.out
    refine Or.inr ⟨g, o, c, by rw [List.length_take, Nat.min_eq_left (by omega)], fun j x hx => ?_⟩
    rw [List.getElem?_take] at hx
    split at hx
    · exact Below.kept (HBX.out.trans (hb.mono HBX.out.size)) (HCELL.out j x hx)
    · cases hx
  have HSRC : Hid ((∀ w', Below wX.heap.size wX w' → Src w' (.slice (some ⟨g, o, none⟩) k c) (n.names.take k)) ∧ ∀ w', Below wX.heap.size wX w' → Src w' (.slice (if c = k + 1 then some ⟨g, o, none⟩ else some ⟨g, o + (k + 1), none⟩) (N - (k + 1)) (c - (k + 1))) (n.names.drop (k + 1))) := ⟨HS1.out, fun w' hb => by
    have hm := HM.out
    by_cases hcj : c = k + 1
    · have hdr : n.names.drop (k + 1) = [] := List.drop_eq_nil_iff.2 (by omega)
      rw [if_pos hcj]
      refine Or.inr ⟨g, o, c - (k + 1), by rw [List.length_drop, ← hm.1], fun j x hx => ?_⟩
      rw [hdr] at hx
      simp at hx
    · rw [if_neg hcj]
      refine Or.inr ⟨g, o + (k + 1), c - (k + 1), by rw [List.length_drop, ← hm.1], fun j x hx => ?_⟩
      rw [List.getElem?_drop] at hx
      have e := Below.kept (HBX.out.trans (hb.mono HBX.out.size)) (HCELL.out _ x hx)
      rw [← Nat.add_assoc] at e
      exact e⟩
  refine' take_U (i := 1) (d := 19) (v := _) rfl rfl (by kernel_rfl) (by kernel_rfl) (by kernel_rfl) (by kernel_rfl) (by kernel_rfl) (by kernel_rfl) (fun _ _ _ h => h) (Or.inl ⟨by rfl, ?h1⟩) (HSX.out) ?_
  case h1 => intro w hSw; go_simp; with_reducible rfl
  simp only [List.setIfInBounds_toArray, List.set_cons_zero, List.set_cons_succ]
  refine' take_U (i := 2) (d := 20) (v := _) rfl rfl (by kernel_rfl) (by kernel_rfl) (by kernel_rfl) (by kernel_rfl) (by kernel_rfl) (by kernel_rfl) (fun _ _ _ h => h) (Or.inl ⟨by rfl, ?h2⟩) (HSX.out) ?_
  case h2 => intro w hSw; go_simp; with_reducible rfl
  simp only [List.setIfInBounds_toArray, List.set_cons_zero, List.set_cons_succ]
  refine' take_U (i := 3) (d := 21) (v := _) rfl rfl (by kernel_rfl) (by kernel_rfl) (by kernel_rfl) (by kernel_rfl) (by kernel_rfl) (by kernel_rfl) (fun _ _ _ h => h) (Or.inl ⟨by rfl, ?h3⟩) (HSX.out) ?_
  case h3 => intro w hSw; go_simp; with_reducible rfl
  simp only [List.setIfInBounds_toArray, List.set_cons_zero, List.set_cons_succ]
  refine' take_U (i := 4) (d := 22) (v := _) rfl rfl (by kernel_rfl) (by kernel_rfl) (by kernel_rfl) (by kernel_rfl) (by kernel_rfl) (by kernel_rfl) (fun _ _ _ h => h) (Or.inl ⟨by rfl, ?h4⟩) (HSX.out) ?_
  case h4 => intro w hSw; go_simp; with_reducible rfl
  simp only [List.setIfInBounds_toArray, List.set_cons_zero, List.set_cons_succ]
  refine' take_U (i := 6) (d := 24) (v := _) rfl rfl (by kernel_rfl) (by kernel_rfl) (by kernel_rfl) (by kernel_rfl) (by kernel_rfl) (by kernel_rfl) (fun _ _ _ h => h) (Or.inl ⟨by rfl, ?h6⟩) (HSX.out) ?_
  case h6 => intro w hSw; go_simp; with_reducible rfl
  simp only [List.setIfInBounds_toArray, List.set_cons_zero, List.set_cons_succ]
  refine' take_U (i := 7) (d := 25) (v := _) rfl rfl (by kernel_rfl) (by kernel_rfl) (by kernel_rfl) (by kernel_rfl) (by kernel_rfl) (by kernel_rfl) (fun _ _ _ h => h) (Or.inl ⟨by rfl, ?h7⟩) (HSX.out) ?_
  case h7 => intro w hSw; go_simp; with_reducible rfl
  simp only [List.setIfInBounds_toArray, List.set_cons_zero, List.set_cons_succ]
  refine' take_U (i := 8) (d := 26) (v := _) rfl rfl (by kernel_rfl) (by kernel_rfl) (by kernel_rfl) (by kernel_rfl) (by kernel_rfl) (by kernel_rfl) (fun _ _ _ h => h) (Or.inl ⟨by rfl, ?h8⟩) (HSX.out) ?_
  case h8 => intro w hSw; go_simp; with_reducible rfl
  simp only [List.setIfInBounds_toArray, List.set_cons_zero, List.set_cons_succ]
  refine' take_U (i := 9) (d := 27) (v := _) rfl rfl (by kernel_rfl) (by kernel_rfl) (by kernel_rfl) (by kernel_rfl) (by kernel_rfl) (by kernel_rfl) (fun _ _ _ h => h) (Or.inl ⟨by rfl, ?h9⟩) (HSX.out) ?_
  case h9 => intro w hSw; go_simp; with_reducible rfl
  simp only [List.setIfInBounds_toArray, List.set_cons_zero, List.set_cons_succ]
  refine' take_U (i := 10) (d := 28) (v := _) rfl rfl (by kernel_rfl) (by kernel_rfl) (by kernel_rfl) (by kernel_rfl) (by kernel_rfl) (by kernel_rfl) (fun _ _ _ h => h) (Or.inl ⟨by rfl, ?h10⟩) (HSX.out) ?_
  case h10 => intro w hSw; go_simp; with_reducible rfl
  simp only [List.setIfInBounds_toArray, List.set_cons_zero, List.set_cons_succ]
  refine wpAnyU_ready (rs := [0]) (by kernel_rfl) (by simp) ?_
  refine AllReadyU.cons (o := _) rfl (fun K hK => ?_) AllReadyU.nil
  go_simp
  obtain ⟨q0, hqq⟩ : ∃ z, z = wX.heap.size := ⟨_, rfl⟩
  rw [← hqq]
  have HB2 : Hid (Below wX.heap.size wX (wX.alloc (.cells #[] 9))) := (Below.refl _ wX).alloc (Nat.le_refl _) _
  have HO2 : Hid ((wX.alloc (.cells #[] 9)).ownsRow wX.heap.size 9 1 (.slice (some ⟨q0, 0, none⟩) 0 0) ([] : List ByteArray).length (sc [])) := by rw [hqq]; exact World.ownsRow_made wX #[] 0 (Nat.le_refl _) (by decide) rfl
  clear hqq
  generalize wX.alloc (.cells #[] 9) = wY1 at *
  refine hK.out _ _ (fun _ _ => (HC.out _ HB2.out)) ?_
  clear hK K
  refine wpAnyU_ready (rs := [5]) (by kernel_rfl) (by simp) ?_
  refine AllReadyU.cons (o := _) rfl (fun K hK => ?_) AllReadyU.nil
  refine wp_strs _ _ rfl wX.heap.size (.slice (some ⟨q0, 0, none⟩) 0 0) (.slice (some ⟨g, o, none⟩) k c) [] (n.names.take k) wY1 rfl rfl HO2.out HB2.out.size (HSRC.out.1 _ HB2.out) (by have := HM.out; simp only [List.length_nil, List.length_take]; omega) ?_
  intro v34 wY2 ho hb hg
  rw [List.nil_append] at ho
  have HO3 : Hid (wY2.ownsRow wX.heap.size 9 1 v34 (n.names.take k).length (sc (n.names.take k))) := ho
  have HB3 : Hid (Below wX.heap.size wX wY2) := HB2.out.trans (hb.mono (Nat.le_refl _))
  obtain ⟨a34, c34, hv34, _⟩ := row_form ho
  obtain ⟨n34, hn34⟩ : ∃ z, z = (n.names.take k).length := ⟨_, rfl⟩
  rw [← hn34] at hv34
  subst hv34
  clear ho hb hg hn34
  go_simp
  refine hK.out _ _ (fun _ _ => (HC.out _ HB3.out)) ?_
  clear hK K
  refine wpAnyU_ready (rs := [11]) (by kernel_rfl) (by simp) ?_
  refine AllReadyU.cons (o := _) rfl (fun K hK => ?_) AllReadyU.nil
  refine wp_strs _ _ rfl wX.heap.size (.slice a34 n34 c34) (.slice (if c = k + 1 then some ⟨g, o, none⟩ else some ⟨g, o + (k + 1), none⟩) (N - (k + 1)) (c - (k + 1))) (n.names.take k) (n.names.drop (k + 1)) wY2 rfl rfl HO3.out HB3.out.size (HSRC.out.2 _ HB3.out) (by have := HM.out; simp only [List.length_drop, List.length_take]; omega) ?_
  intro v42 wY3 ho hb hg
  have HO4 : Hid (wY3.ownsRow wX.heap.size 9 1 v42 (n.names.take k ++ n.names.drop (k + 1)).length (sc (n.names.take k ++ n.names.drop (k + 1)))) := ho
  have HB4 : Hid (Below wX.heap.size wX wY3) := HB3.out.trans (hb.mono (Nat.le_refl _))
  obtain ⟨a42, c42, hv42, _⟩ := row_form ho
  obtain ⟨n42, hn42⟩ : ∃ z, z = (n.names.take k ++ n.names.drop (k + 1)).length := ⟨_, rfl⟩
  have HN42 : Hid (n42 = (n.names.take k ++ n.names.drop (k + 1)).length) := hn42
  rw [← hn42] at hv42
  subst hv42
  clear ho hb hg hn42
  have HN3 : Hid (Cb wY3 w.heap.size (k10 n (.slice (some ⟨g, o, none⟩) N c)) 40) := HN.out.below HB4.out
  have HZ3 : Hid (Cb wY3 (w.heap.size + 1) (k10 Kq.zero (.slice none 0 0)) 40) := HZ.out.below HB4.out
  have HQ4 : Hid (wY3.cell? ⟨w.heap.size, 9, none⟩ = some (.slice (some ⟨g, o, none⟩) N c) ∧ wY3.frozen? ⟨w.heap.size, 9, none⟩ = false) := ⟨HC.out _ HB4.out, HN3.out.free 9⟩
  go_simp
  refine hK.out _ _ (fun _ _ => HQ4.out.1) ?_
  clear hK K
  refine' take_U (i := 12) (d := 30) (v := _) rfl rfl (by kernel_rfl) (by kernel_rfl) (by kernel_rfl) (by kernel_rfl) (by kernel_rfl) (by kernel_rfl) (fun _ _ _ h => h) (Or.inl ⟨by rfl, ?h12⟩) (HQ4.out.1) ?_
  case h12 => intro w hSw; go_simp; with_reducible rfl
  simp only [List.setIfInBounds_toArray, List.set_cons_zero, List.set_cons_succ]
  refine wpAnyU_ready (rs := [13]) (by kernel_rfl) (by simp) ?_
  refine AllReadyU.cons (o := _) rfl (fun K hK => ?_) AllReadyU.nil
  have hc := HQ4.out.1
  have hz := HQ4.out.2
  go_simp
  clear hc hz
  refine hK.out _ _ (fun h => absurd (by decide) h) ?_
  clear hK K
  refine wpAnyU_done (by kernel_rfl) ?_ _
  have HNz : Hid (Cb (wY3.setCell ⟨w.heap.size, 9, none⟩ (.slice a42 n42 c42)) w.heap.size (k10 n (.slice a42 n42 c42)) 40) := HN3.out.set 9 _
  have HZz : Hid (Cb (wY3.setCell ⟨w.heap.size, 9, none⟩ (.slice a42 n42 c42)) (w.heap.size + 1) (k10 Kq.zero (.slice none 0 0)) 40) := HZ3.out.keep (RowKit.Below.heap_setCell _ _ _ _ (by show w.heap.size + 1 ≠ w.heap.size; omega))
  have HRz : Hid ((wY3.setCell ⟨w.heap.size, 9, none⟩ (.slice a42 n42 c42)).ownsRow wX.heap.size 9 1 (.slice a42 n42 c42) (n.names.take k ++ n.names.drop (k + 1)).length (sc (n.names.take k ++ n.names.drop (k + 1)))) := row_stays HO4.out (fun x hx => RowKit.Below.heap_setCell _ _ _ _ (fun e => by have h1 := (HO4.out.lt x hx).1; have h2 := HWX.out; have h3 : x = w.heap.size := e; omega))
  have HBz : Hid (Below w.heap.size w (wY3.setCell ⟨w.heap.size, 9, none⟩ (.slice a42 n42 c42))) := (HBX.out.trans (HB4.out.mono HBX.out.size)).grown (grownBy_setCell _ _ _) (HBX.out.trans (HB4.out.mono HBX.out.size)).size (fun x hx => by simp at hx; omega)
  generalize wY3.setCell ⟨w.heap.size, 9, none⟩ (.slice a42 n42 c42) = wz at *
  obtain ⟨c0, c1, c2, c3, c4, c5, c6, c7, c8, c9⟩ := ten_cells HNz.out
  obtain ⟨z0, z1, z2, z3, z4, z5, z6, z7, z8, z9⟩ := ten_cells HZz.out
  have f0 := HZz.out.free 0
  have f1 := HZz.out.free 1
  have f2 := HZz.out.free 2
  have f3 := HZz.out.free 3
  have f4 := HZz.out.free 4
  have f5 := HZz.out.free 5
  have f6 := HZz.out.free 6
  have f7 := HZz.out.free 7
  have f8 := HZz.out.free 8
  have f9 := HZz.out.free 9
  have e0 := HNz.out.free 0
  have e1 := HNz.out.free 1
  have e2 := HNz.out.free 2
  have e3 := HNz.out.free 3
  have e4 := HNz.out.free 4
  have e5 := HNz.out.free 5
  have e6 := HNz.out.free 6
  have e7 := HNz.out.free 7
  have e8 := HNz.out.free 8
  have e9 := HNz.out.free 9
  clear HSRC HS1
  generalize (if c = k + 1 then some (⟨g, o, none⟩ : Addr) else some ⟨g, o + (k + 1), none⟩) = au
  go_wp2_with fail
  refine (refMore_any n.kids _ HK.out).mono ?_
  rintro e w5 ⟨rfl, hw5⟩
  rw [hw5]
  clear hw5 w5
  go_wp2_with fail
  have hg1 : wz.grownBy ((wz.setCell ⟨w.heap.size, 3, none⟩ (.int .i64 (Kq.more n.kids))).setCell ⟨w.heap.size, 6, none⟩ (.int .i64 (n42 : Int))) (some w.heap.size) := (grown_set (grown_set ⟨rfl, rfl, rfl, Nat.le_refl _, fun _ _ _ => rfl⟩ _) _)
  have hg2 := put10_grown ((wz.setCell ⟨w.heap.size, 3, none⟩ (.int .i64 (Kq.more n.kids))).setCell ⟨w.heap.size, 6, none⟩ (.int .i64 (n42 : Int))) (w.heap.size + 1) ({ n with kids := Kq.more n.kids, cnt := (n42 : Int) } : Kq.Kn) (.slice a42 n42 c42)
  have HX : Hid (Cb (put10 ((wz.setCell ⟨w.heap.size, 3, none⟩ (.int .i64 (Kq.more n.kids))).setCell ⟨w.heap.size, 6, none⟩ (.int .i64 (n42 : Int))) (w.heap.size + 1) ({ n with kids := Kq.more n.kids, cnt := (n42 : Int) } : Kq.Kn) (.slice a42 n42 c42)) (w.heap.size + 1) (k10 ({ n with kids := Kq.more n.kids, cnt := (n42 : Int) } : Kq.Kn) (.slice a42 n42 c42)) 40) := put10_cb (HZz.out.keep (hg1.block _ HZz.out.lt (fun e => by simp at e)))
  have HBX2 : Hid (Below w.heap.size w (put10 ((wz.setCell ⟨w.heap.size, 3, none⟩ (.int .i64 (Kq.more n.kids))).setCell ⟨w.heap.size, 6, none⟩ (.int .i64 (n42 : Int))) (w.heap.size + 1) ({ n with kids := Kq.more n.kids, cnt := (n42 : Int) } : Kq.Kn) (.slice a42 n42 c42))) := (HBz.out.grown hg1 HBz.out.size (fun k hk => by simp at hk; omega)).grown hg2 (Nat.le_trans HBz.out.size hg1.size) (fun k hk => by simp at hk; omega)
  have HRX : Hid ((put10 ((wz.setCell ⟨w.heap.size, 3, none⟩ (.int .i64 (Kq.more n.kids))).setCell ⟨w.heap.size, 6, none⟩ (.int .i64 (n42 : Int))) (w.heap.size + 1) ({ n with kids := Kq.more n.kids, cnt := (n42 : Int) } : Kq.Kn) (.slice a42 n42 c42)).ownsRow wX.heap.size 9 1 (.slice a42 n42 c42) (n.names.take k ++ n.names.drop (k + 1)).length (sc (n.names.take k ++ n.names.drop (k + 1)))) := row_stays HRz.out (fun x hx => by
    have h1 := HRz.out.lt x hx
    have h2 := HWX.out
    rw [hg2.block x (Nat.lt_of_lt_of_le h1.2 hg1.size) (fun e => by simp at e; omega), hg1.block x h1.2 (fun e => by simp at e; omega)])
  unfold put10 at HX HBX2 HRX
  simp only [] at HX HBX2 HRX
  clear hg1 hg2
  generalize ((((((((((((wz.setCell ⟨w.heap.size, 3, none⟩ (.int .i64 (Kq.more n.kids))).setCell ⟨w.heap.size, 6, none⟩ (.int .i64 (n42 : Int))).setCell ⟨w.heap.size + 1, 0, none⟩ (.int .i64 n.made)).setCell ⟨w.heap.size + 1, 1, none⟩ (.int .i64 n.changed)).setCell ⟨w.heap.size + 1, 2, none⟩ (.int .i64 n.ver)).setCell ⟨w.heap.size + 1, 3, none⟩ (.int .i64 (Kq.more n.kids))).setCell ⟨w.heap.size + 1, 4, none⟩ (.int .i64 n.owner)).setCell ⟨w.heap.size + 1, 5, none⟩ (.int .i64 n.len)).setCell ⟨w.heap.size + 1, 6, none⟩ (.int .i64 (n42 : Int))).setCell ⟨w.heap.size + 1, 7, none⟩ (.string n.data)).setCell ⟨w.heap.size + 1, 8, none⟩ (.int .i64 n.next)).setCell ⟨w.heap.size + 1, 9, none⟩ (.slice a42 n42 c42)) = wy at *
  clear c0 c1 c2 c3 c4 c5 c6 c7 c8 c9 z0 z1 z2 z3 z4 z5 z6 z7 z8 z9 f0 f1 f2 f3 f4 f5 f6 f7 f8 f9 e0 e1 e2 e3 e4 e5 e6 e7 e8 e9
  refine bodyPost_ret (v := .tuple #[.agg #[.int .i64 n.made, .int .i64 n.changed, .int .i64 n.ver, .int .i64 (Kq.more n.kids), .int .i64 n.owner, .int .i64 n.len, .int .i64 (n42 : Int), .string n.data, .int .i64 n.next, .slice a42 n42 c42], .bool true]) ?_ rfl ?_
  · obtain ⟨c0, c1, c2, c3, c4, c5, c6, c7, c8, c9⟩ := ten_cells HX.out
    simp only [] at c0 c1 c2 c3 c4 c5 c6 c7 c8 c9
    rw [results_cell_tmp rfl]
    go_simp
  · have e : (n42 : Int) = ((n.names.length - 1 : Nat) : Int) := by
      have h1 := HN42.out
      have h2 := HM.out
      rw [List.length_append, List.length_take, List.length_drop] at h1
      omega
    refine ⟨a42, n42, c42, ?_, ?_, fun x hx => (by have h1 := (HRX.out.lt x hx).1; have h2 := HWX.out; omega), HBX2.out⟩
    · rw [HREM.out, e]
    · rw [HREM.out]
      have e2 := Nm.of_row HRX.out
      exact e2
theorem refRemove_any (n : Kq.Kn) (a : Option Addr) (L c : Nat) (s : ByteArray) (w : World) (h : Nm w (.slice a L c) n.names) (hf : Fine10 n) (hr : Kq.Rises n.names) :
    Calls Try.prog 23 #[kv n (.slice a L c), .string s] w fun e w' => ∃ a' L' c', e = .returned (.tuple #[kv (Kq.remove n s) (.slice a' L' c'), .bool (Kq.has n.names s)]) ∧ Nm w' (.slice a' L' c') (Kq.remove n s).names ∧ (New10 w (.slice a' L' c') ∨ (Value.slice a' L' c' = .slice a L c ∧ Kq.remove n s = n)) ∧ Below w.heap.size w w' := by
  cases hh : Kq.has n.names s with
  | true =>
    refine (refRemove_yes n a L c s w h hf hr hh).mono ?_
    rintro e w' ⟨a', L', c', rfl, h1, h2, hb⟩
    exact ⟨a', L', c', rfl, h1, Or.inl h2, hb⟩
  | false =>
    refine (refRemove_no n a L c s w h hf hr hh).mono ?_
    rintro e w' ⟨rfl, hb⟩
    have e := Kq.remove_no hh
    rw [e]
    exact ⟨a, L, c, rfl, h.below hb, Or.inr ⟨rfl, rfl⟩, hb⟩
end Go.Proofs.Ytlgpjgncimcijaa
