/- What the landed node's Add and Remove answer. -/
import Derived.Test.YtpidafpaffpnaaaGreatDoorWtk
import Derived.Test.YtpidafpaffpnaaaGreatDoorWnd
namespace Go.Proofs.YtpidafpaffpnaaaGreatDoor
open Go.RowKit

/-- What hold has changed: the node's block, and new ones. -/
theorem moved_hold {w w5 w6 w7 : World} {q N : Nat} {v v' : Value} {l : List Value} (h5 : Below w.heap.size w w5) (ho : w6.ownsRow w5.heap.size 9 1 v' N l) (h6 : w5.grownBy w6 (some q)) (h7 : w6.grownBy w7 (some q)) : Moved w w7 (Fn q v) (Fn q v') := by
  have hs := h5.size
  have hs2 := h6.size
  refine ⟨h7.os.trans (h6.os.trans h5.os), h7.tape.trans (h6.tape.trans h5.tape), h7.output.trans (h6.output.trans h5.output), Nat.le_trans hs (Nat.le_trans hs2 h7.size), fun k hk hF => ?_, fun k hk => ?_⟩
  · have hq : some k ≠ some q := fun e => hF (Or.inl (Option.some.inj e))
    rw [h7.block k (by omega) hq, h6.block k (by omega) hq, h5.block k hk]
  · rcases hk with rfl | hk
    · exact Or.inl (Or.inl rfl)
    · exact Or.inr (Nat.le_trans hs (ho.lt k hk).1)

set_option maxRecDepth 20000 in
set_option maxHeartbeats 2000000 in
theorem add_no11 (q : Nat) (n : Kq.Kn) (a : Option Addr) (N c k : Nat) (s : ByteArray) (w : World) (h : Own11 w q n (.slice a N c)) (hf : Fine10 n) (hh : Kq.has n.names s = true) (hk : k = (Kq.low n.names s).length) :
    Calls Tryz.prog 106 #[dptr q, .string s] w fun e w' => e = .returned (.bool false) ∧ Own11 w' q n (.slice a N c) ∧ Below w.heap.size w w' := by
  have HOW : Hid (Own11 w q n (.slice a N c)) := h
  have HF : Hid (Calls Tryz.prog 148 #[.slice a N c, .string s] w fun e w' => e = .returned (.tuple #[.int .i64 (k : Int), .bool true]) ∧ Below w.heap.size w w') := by
    refine (search_any10 (.slice a N c) n.names s w (Nm.of_row h.row) h.rises hf.many).mono ?_
    rintro e w' ⟨rfl, nq, rfl⟩
    rw [hh, ← hk]
    exact ⟨rfl, below_drewN (Below.refl _ _) _⟩
  have cc9 : w.cell? ⟨q, 9, none⟩ = some (.slice a N c) := h.blk.cell 9
  clear h hf hh hk
  unfold dptr
  go_enter Tryz.func106, Tryz.ntmps106
  go_wp2_with fail
  clear cc9
  refine HF.out.mono ?_
  rintro e w1 ⟨rfl, hb⟩
  have HO1 : Hid (Own11 w1 q n (.slice a N c) ∧ Below w.heap.size w w1) := ⟨HOW.out.keep (fun k hk => hb.block k (HOW.out.flt hk)), hb⟩
  clear hb
  go_wp2
  go_ret
  exact ⟨rfl, HO1.out.1, HO1.out.2⟩
set_option maxRecDepth 20000 in
set_option maxHeartbeats 8000000 in
theorem add_none11 (q : Nat) (n : Kq.Kn) (N c k : Nat) (s : ByteArray) (w : World) (h : Own11 w q n (.slice (none) N c)) (hNc : N = n.names.length ∧ N ≤ c ∧ N = 0 ∧ c = 0) (hf : Fine10 n) (hs : s.size ≤ 20000) (hh : Kq.has n.names s = false) (hk : k = (Kq.low n.names s).length) :
    Calls Tryz.prog 106 #[dptr q, .string s] w fun e w' => ∃ v', e = .returned (.bool true) ∧ Own11 w' q (Kq.add n s) v' ∧ Moved w w' (Fn q (.slice (none) N c)) (Fn q v') := by
  have hkl := Kq.low_len n.names s
  have HOW : Hid (Own11 w q n (.slice (none) N c)) := h
  have HFI : Hid ((-9223372036854775808 ≤ n.kids ∧ n.kids ≤ 9223372036854775807) ∧ (-9223372036854775808 ≤ n.next ∧ n.next ≤ 9223372036854775807)) := ⟨hf.kids, hf.next⟩
  have HF : Hid (Calls Tryz.prog 148 #[.slice (none) N c, .string s] w fun e w' => e = .returned (.tuple #[.int .i64 (k : Int), .bool false]) ∧ Below w.heap.size w w') := by
    refine (search_any10 (.slice (none) N c) n.names s w (Nm.of_row h.row) h.rises hf.many).mono ?_
    rintro e w' ⟨rfl, nq, rfl⟩
    rw [hh, ← hk]
    exact ⟨rfl, below_drewN (Below.refl _ _) _⟩
  have hmem : s ∉ n.names := fun e => by rw [Kq.has_iff.2 e] at hh; cases hh
  have HSC : Hid (∀ w, Calls Tryz.prog 65 #[.string s] w fun e w' => e = .returned (.string s) ∧ Below w.heap.size w w') := fun w => sclone_any10 s w (by omega)
  have HMN : Hid (∀ w, Calls Tryz.prog 150 #[.int .i64 n.next] w fun e w' => e = .returned (.int .i64 (Kq.more n.next)) ∧ w' = w) := fun w => oneMore_any10 n.next w hf.next
  have HFL : Hid ([n.names.take k, [s], n.names.drop k].flatten = Kq.ins n.names s) := by rw [hk]; exact Kq.ins_flat n.names s
  have HLE : Hid ((Kq.ins n.names s).length ≤ 3000) := by have e := Kq.len_ins n.names s; have e2 := hf.many; have e3 : (Kq.ins n.names s).length ≤ 3000 := (by omega); exact e3
  have HRI : Hid (Kq.Rises (Kq.ins n.names s)) := Kq.rises_ins h.rises hmem
  have HAD : Hid (Kq.add n s = { Kq.hold n (Kq.ins n.names s) with next := Kq.more n.next }) := by
    have e := Kq.add_yes hh
    rw [← Kq.len_ins n.names s] at e
    exact e
  clear hmem
  have HSR : Hid ((∀ w', Below w.heap.size w w' → Src w' (.slice (none) k c) (n.names.take k)) ∧ ∀ w', Below w.heap.size w w' → Src w' (.slice none (N - k) (c - k)) (n.names.drop k)) := by
    have e1 : k = 0 := by omega
    have e2 : N - k = 0 := by omega
    have e3 : c - k = 0 := by omega
    refine ⟨fun w' hb => Or.inl ⟨by rw [e1, hNc.2.2.2], by rw [e1]; rfl⟩, fun w' hb => Or.inl ⟨by rw [e2, e3], List.drop_eq_nil_iff.2 (by omega)⟩⟩
  have hLc : N ≤ c := hNc.2.1
  have hkN2 : k ≤ N := by rw [hk, hNc.1]; exact hkl
  have hN1 : N ≤ 1000 := by rw [hNc.1]; exact hf.many
  clear h hh hf hk hkl hNc hs
  have k0 : (0 : Int) ≤ (k : Int) := by omega
  have kN : (k : Int) ≤ (N : Int) := by omega
  have kc : (k : Int) ≤ (c : Int) := by omega
  unfold dptr
  go_enter Tryz.func106, Tryz.ntmps106
  have cc9 : w.cell? ⟨q, 9, none⟩ = some (.slice (none) N c) := HOW.out.blk.cell 9
  go_wp2_with fail
  clear cc9
  refine HF.out.mono ?_
  rintro e w1 ⟨rfl, hb⟩
  have HO1 : Hid (Own11 w1 q n (.slice (none) N c) ∧ Below w.heap.size w w1) := ⟨HOW.out.keep (fun k hk => hb.block k (HOW.out.flt hk)), hb⟩
  clear hb
  go_wp2_with fail
  refine wp_region_U (fun w' => w'.cell? ⟨q, 9, none⟩ = some (.slice (none) N c)) [17] (by kernel_rfl) ?_
  have HO2 : Hid (Own11 w1.drew q n (.slice (none) N c) ∧ Below w.heap.size w w1.drew) := ⟨HO1.out.1.keep (fun _ _ => rfl), HO1.out.2.drew⟩
  clear HO1
  generalize w1.drew = w2 at *
  refine' take_U (i := 0) (d := 17) (v := _) rfl rfl (by kernel_rfl) (by kernel_rfl) (by kernel_rfl) (by kernel_rfl) (by kernel_rfl) (by kernel_rfl) (fun _ _ _ h => h) (Or.inl ⟨by rfl, ?h0⟩) (HO2.out.1.blk.cell 9) ?_
  case h0 => intro w hSw; go_simp; with_reducible rfl
  simp only [List.setIfInBounds_toArray, List.set_cons_zero, List.set_cons_succ]
  refine' take_U (i := 1) (d := 18) (v := _) rfl rfl (by kernel_rfl) (by kernel_rfl) (by kernel_rfl) (by kernel_rfl) (by kernel_rfl) (by kernel_rfl) (fun _ _ _ h => h) (Or.inl ⟨by rfl, ?h1⟩) (HO2.out.1.blk.cell 9) ?_
  case h1 => intro w hSw; go_simp; with_reducible rfl
  simp only [List.setIfInBounds_toArray, List.set_cons_zero, List.set_cons_succ]
  refine' take_U (i := 2) (d := 19) (v := _) rfl rfl (by kernel_rfl) (by kernel_rfl) (by kernel_rfl) (by kernel_rfl) (by kernel_rfl) (by kernel_rfl) (fun _ _ _ h => h) (Or.inl ⟨by rfl, ?h2⟩) (HO2.out.1.blk.cell 9) ?_
  case h2 => intro w hSw; go_simp; with_reducible rfl
  simp only [List.setIfInBounds_toArray, List.set_cons_zero, List.set_cons_succ]
  refine' take_U (i := 3) (d := 20) (v := _) rfl rfl (by kernel_rfl) (by kernel_rfl) (by kernel_rfl) (by kernel_rfl) (by kernel_rfl) (by kernel_rfl) (fun _ _ _ h => h) (Or.inl ⟨by rfl, ?h3⟩) (HO2.out.1.blk.cell 9) ?_
  case h3 => intro w hSw; go_simp; with_reducible rfl
  simp only [List.setIfInBounds_toArray, List.set_cons_zero, List.set_cons_succ]
  refine' take_U (i := 4) (d := 21) (v := _) rfl rfl (by kernel_rfl) (by kernel_rfl) (by kernel_rfl) (by kernel_rfl) (by kernel_rfl) (by kernel_rfl) (fun _ _ _ h => h) (Or.inl ⟨by rfl, ?h4⟩) (HO2.out.1.blk.cell 9) ?_
  case h4 => intro w hSw; go_simp; with_reducible rfl
  simp only [List.setIfInBounds_toArray, List.set_cons_zero, List.set_cons_succ]
  refine' take_U (i := 5) (d := 22) (v := _) rfl rfl (by kernel_rfl) (by kernel_rfl) (by kernel_rfl) (by kernel_rfl) (by kernel_rfl) (by kernel_rfl) (fun _ _ _ h => h) (Or.inl ⟨by rfl, ?h5⟩) (HO2.out.1.blk.cell 9) ?_
  case h5 => intro w hSw; go_simp; with_reducible rfl
  simp only [List.setIfInBounds_toArray, List.set_cons_zero, List.set_cons_succ]
  refine' take_U (i := 6) (d := 23) (v := _) rfl rfl (by kernel_rfl) (by kernel_rfl) (by kernel_rfl) (by kernel_rfl) (by kernel_rfl) (by kernel_rfl) (fun _ _ _ h => h) (Or.inl ⟨by rfl, ?h6⟩) (HO2.out.1.blk.cell 9) ?_
  case h6 => intro w hSw; go_simp; with_reducible rfl
  simp only [List.setIfInBounds_toArray, List.set_cons_zero, List.set_cons_succ]
  refine' take_U (i := 7) (d := 24) (v := _) rfl rfl (by kernel_rfl) (by kernel_rfl) (by kernel_rfl) (by kernel_rfl) (by kernel_rfl) (by kernel_rfl) (fun _ _ _ h => h) (Or.inl ⟨by rfl, ?h7⟩) (HO2.out.1.blk.cell 9) ?_
  case h7 => intro w hSw; go_simp; with_reducible rfl
  simp only [List.setIfInBounds_toArray, List.set_cons_zero, List.set_cons_succ]
  refine' take_U (i := 10) (d := 27) (v := _) rfl rfl (by kernel_rfl) (by kernel_rfl) (by kernel_rfl) (by kernel_rfl) (by kernel_rfl) (by kernel_rfl) (fun _ _ _ h => h) (Or.inl ⟨by rfl, ?h10⟩) (HO2.out.1.blk.cell 9) ?_
  case h10 => intro w hSw; go_simp; with_reducible rfl
  simp only [List.setIfInBounds_toArray, List.set_cons_zero, List.set_cons_succ]
  refine' take_U (i := 11) (d := 28) (v := _) rfl rfl (by kernel_rfl) (by kernel_rfl) (by kernel_rfl) (by kernel_rfl) (by kernel_rfl) (by kernel_rfl) (fun _ _ _ h => h) (Or.inl ⟨by rfl, ?h11⟩) (HO2.out.1.blk.cell 9) ?_
  case h11 => intro w hSw; go_simp; with_reducible rfl
  simp only [List.setIfInBounds_toArray, List.set_cons_zero, List.set_cons_succ]
  refine' take_U (i := 12) (d := 29) (v := _) rfl rfl (by kernel_rfl) (by kernel_rfl) (by kernel_rfl) (by kernel_rfl) (by kernel_rfl) (by kernel_rfl) (fun _ _ _ h => h) (Or.inl ⟨by rfl, ?h12⟩) (HO2.out.1.blk.cell 9) ?_
  case h12 => intro w hSw; go_simp; with_reducible rfl
  simp only [List.setIfInBounds_toArray, List.set_cons_zero, List.set_cons_succ]
  refine' take_U (i := 13) (d := 30) (v := _) rfl rfl (by kernel_rfl) (by kernel_rfl) (by kernel_rfl) (by kernel_rfl) (by kernel_rfl) (by kernel_rfl) (fun _ _ _ h => h) (Or.inl ⟨by rfl, ?h13⟩) (HO2.out.1.blk.cell 9) ?_
  case h13 => intro w hSw; go_simp; with_reducible rfl
  simp only [List.setIfInBounds_toArray, List.set_cons_zero, List.set_cons_succ]
  refine' take_U (i := 14) (d := 31) (v := _) rfl rfl (by kernel_rfl) (by kernel_rfl) (by kernel_rfl) (by kernel_rfl) (by kernel_rfl) (by kernel_rfl) (fun _ _ _ h => h) (Or.inl ⟨by rfl, ?h14⟩) (HO2.out.1.blk.cell 9) ?_
  case h14 => intro w hSw; go_simp; with_reducible rfl
  simp only [List.setIfInBounds_toArray, List.set_cons_zero, List.set_cons_succ]
  refine' take_U (i := 15) (d := 32) (v := _) rfl rfl (by kernel_rfl) (by kernel_rfl) (by kernel_rfl) (by kernel_rfl) (by kernel_rfl) (by kernel_rfl) (fun _ _ _ h => h) (Or.inl ⟨by rfl, ?h15⟩) (HO2.out.1.blk.cell 9) ?_
  case h15 => intro w hSw; go_simp; with_reducible rfl
  simp only [List.setIfInBounds_toArray, List.set_cons_zero, List.set_cons_succ]
  refine wpAnyU_ready (rs := [8]) (by kernel_rfl) (by simp) ?_
  refine AllReadyU.cons (o := _) rfl (fun K hK => ?_) AllReadyU.nil
  go_simp
  refine (HSC.out _).mono ?_
  rintro e w3 ⟨rfl, hb⟩
  have HO3 : Hid (Own11 w3 q n (.slice (none) N c) ∧ Below w.heap.size w w3) := ⟨HO2.out.1.keep (fun k hk => hb.block k (HO2.out.1.flt hk)), HO2.out.2.trans (hb.mono HO2.out.2.size)⟩
  clear hb
  simp only []
  refine hK.out _ _ (fun _ _ => HO3.out.1.blk.cell 9) ?_
  clear hK K
  refine wpAnyU_ready (rs := [9]) (by kernel_rfl) (by simp) ?_
  refine AllReadyU.cons (o := _) rfl (fun K hK => ?_) AllReadyU.nil
  go_simp
  obtain ⟨q3, hq3⟩ : ∃ z, z = w3.heap.size := ⟨_, rfl⟩
  rw [← hq3]
  have HSX : Hid (Src (w3.alloc (.cells #[.string s] 9)) (.slice (some ⟨q3, 0, none⟩) 1 1) [s]) := by rw [hq3]; exact Src.one w3 s _
  have hb := (Below.refl _ w3).alloc (Nat.le_refl _) (.cells #[.string s] 9)
  have HO4 : Hid (Own11 (w3.alloc (.cells #[.string s] 9)) q n (.slice (none) N c) ∧ Below w.heap.size w (w3.alloc (.cells #[.string s] 9))) := ⟨HO3.out.1.keep (fun k hk => hb.block k (HO3.out.1.flt hk)), HO3.out.2.trans (hb.mono HO3.out.2.size)⟩
  clear hb hq3
  generalize w3.alloc (.cells #[.string s] 9) = w4 at *
  refine hK.out _ _ (fun _ _ => HO4.out.1.blk.cell 9) ?_
  clear hK K
  refine wpAnyU_ready (rs := [16]) (by kernel_rfl) (by simp) ?_
  refine AllReadyU.cons (o := _) rfl (fun K hK => ?_) AllReadyU.nil
  go_simp
  obtain ⟨q5, hq5⟩ : ∃ z, z = w4.heap.size := ⟨_, rfl⟩
  rw [← hq5]
  have hb := (Below.refl _ w4).alloc (Nat.le_refl _) (.cells #[.slice (none) k c, .slice (some ⟨q3, 0, none⟩) 1 1, .slice none (N - k) (c - k)] 36)
  have HO5 : Hid (Own11 (w4.alloc (.cells #[.slice (none) k c, .slice (some ⟨q3, 0, none⟩) 1 1, .slice none (N - k) (c - k)] 36)) q n (.slice (none) N c) ∧ Below w.heap.size w (w4.alloc (.cells #[.slice (none) k c, .slice (some ⟨q3, 0, none⟩) 1 1, .slice none (N - k) (c - k)] 36))) := ⟨HO4.out.1.keep (fun k hk => hb.block k (HO4.out.1.flt hk)), HO4.out.2.trans (hb.mono HO4.out.2.size)⟩
  have HPC : Hid (Pcs (w4.alloc (.cells #[.slice (none) k c, .slice (some ⟨q3, 0, none⟩) 1 1, .slice none (N - k) (c - k)] 36)) (.slice (some ⟨q5, 0, none⟩) 3 3) [n.names.take k, [s], n.names.drop k]) := by
    refine ⟨q5, 0, 3, rfl, fun j l hl => ?_⟩
    have hcell : ∀ (j : Nat) u, (#[.slice (none) k c, .slice (some ⟨q3, 0, none⟩) 1 1, .slice none (N - k) (c - k)] : Array Value)[j]? = some u → (w4.alloc (.cells #[.slice (none) k c, .slice (some ⟨q3, 0, none⟩) 1 1, .slice none (N - k) (c - k)] 36)).cell? ⟨q5, 0 + j, none⟩ = some u := fun j u hu => by
      rw [hq5, Nat.zero_add]
      exact cell?_alloc_at _ _ _ _ _ _ hu
    match j, hl with
    | 0, hl =>
      obtain rfl := Option.some.inj hl
      exact ⟨_, hcell 0 _ rfl, HSR.out.1 _ HO5.out.2⟩
    | 1, hl =>
      obtain rfl := Option.some.inj hl
      exact ⟨_, hcell 1 _ rfl, HSX.out.below hb⟩
    | 2, hl =>
      obtain rfl := Option.some.inj hl
      exact ⟨_, hcell 2 _ rfl, HSR.out.2 _ HO5.out.2⟩
    | (j + 3), hl => simp at hl
  clear hb hq5
  generalize w4.alloc (.cells #[.slice (none) k c, .slice (some ⟨q3, 0, none⟩) 1 1, .slice none (N - k) (c - k)] 36) = w5 at *
  refine hK.out _ _ (fun _ _ => HO5.out.1.blk.cell 9) ?_
  clear hK K
  refine wpAnyU_ready (rs := [17]) (by kernel_rfl) (by simp) ?_
  refine AllReadyU.cons (o := _) rfl (fun K hK => ?_) AllReadyU.nil
  go_simp
  refine (hold_any11 q n (.slice (none) N c) _ [n.names.take k, [s], n.names.drop k] w5 HO5.out.1.blk HFI.out.1 HPC.out (by show 3 ≤ 1000; decide) (by rw [HFL.out]; exact HLE.out)).mono ?_
  rintro e w6 ⟨v6, rfl, hc, ho, hg⟩
  rw [HFL.out] at hc ho
  obtain ⟨a6, c6, hv6, _⟩ := row_form ho
  obtain ⟨n6, hn6⟩ : ∃ z, z = (Kq.ins n.names s).length := ⟨_, rfl⟩
  rw [← hn6] at hv6
  subst hv6
  have H6 : Hid (Cb w6 q (k10 (Kq.hold n (Kq.ins n.names s)) (.slice a6 n6 c6)) 121 ∧ w6.ownsRow w5.heap.size 9 1 (.slice a6 n6 c6) (Kq.ins n.names s).length (sc (Kq.ins n.names s)) ∧ w5.grownBy w6 (some q)) := ⟨hc, ho, hg⟩
  clear hc ho hg hn6
  simp only []
  refine hK.out _ _ (fun h => absurd (by decide) h) ?_
  clear hK K
  refine wpAnyU_done (by kernel_rfl) ?_ _
  have c8 : w6.cell? ⟨q, 8, none⟩ = some (.int .i64 n.next) := H6.out.1.cell 8
  have f8 := H6.out.1.free 8
  go_wp2_with fail
  refine (HMN.out _).mono ?_
  rintro e w7 ⟨rfl, hw⟩
  rw [hw]
  clear hw w7
  go_wp2
  go_ret
  clear c8 f8
  refine ⟨.slice a6 n6 c6, rfl, ?_, ?_⟩
  · rw [HAD.out]
    exact ⟨H6.out.1.set 8 _, (row_stays H6.out.2.1 (fun k hk => RowKit.Below.heap_setCell _ _ _ _ (fun e => H6.out.1.apart H6.out.2.1 (by decide) (by rw [hk]; exact congrArg some e)))).mono (Nat.zero_le _), HRI.out⟩
  · exact moved_hold HO5.out.2 H6.out.2.1 H6.out.2.2 (grownBy_setCell w6 ⟨q, 8, none⟩ (.int .i64 (Kq.more n.next)))
set_option maxRecDepth 20000 in
set_option maxHeartbeats 8000000 in
theorem add_some11 (q : Nat) (n : Kq.Kn) (g : Nat) (N c k : Nat) (s : ByteArray) (w : World) (h : Own11 w q n (.slice (some ⟨g, 0, none⟩) N c)) (hNc : N = n.names.length ∧ N ≤ c) (hf : Fine10 n) (hs : s.size ≤ 20000) (hh : Kq.has n.names s = false) (hk : k = (Kq.low n.names s).length) :
    Calls Tryz.prog 106 #[dptr q, .string s] w fun e w' => ∃ v', e = .returned (.bool true) ∧ Own11 w' q (Kq.add n s) v' ∧ Moved w w' (Fn q (.slice (some ⟨g, 0, none⟩) N c)) (Fn q v') := by
  have hkl := Kq.low_len n.names s
  have HOW : Hid (Own11 w q n (.slice (some ⟨g, 0, none⟩) N c)) := h
  have HFI : Hid ((-9223372036854775808 ≤ n.kids ∧ n.kids ≤ 9223372036854775807) ∧ (-9223372036854775808 ≤ n.next ∧ n.next ≤ 9223372036854775807)) := ⟨hf.kids, hf.next⟩
  have HF : Hid (Calls Tryz.prog 148 #[.slice (some ⟨g, 0, none⟩) N c, .string s] w fun e w' => e = .returned (.tuple #[.int .i64 (k : Int), .bool false]) ∧ Below w.heap.size w w') := by
    refine (search_any10 (.slice (some ⟨g, 0, none⟩) N c) n.names s w (Nm.of_row h.row) h.rises hf.many).mono ?_
    rintro e w' ⟨rfl, nq, rfl⟩
    rw [hh, ← hk]
    exact ⟨rfl, below_drewN (Below.refl _ _) _⟩
  have hmem : s ∉ n.names := fun e => by rw [Kq.has_iff.2 e] at hh; cases hh
  have HSC : Hid (∀ w, Calls Tryz.prog 65 #[.string s] w fun e w' => e = .returned (.string s) ∧ Below w.heap.size w w') := fun w => sclone_any10 s w (by omega)
  have HMN : Hid (∀ w, Calls Tryz.prog 150 #[.int .i64 n.next] w fun e w' => e = .returned (.int .i64 (Kq.more n.next)) ∧ w' = w) := fun w => oneMore_any10 n.next w hf.next
  have HFL : Hid ([n.names.take k, [s], n.names.drop k].flatten = Kq.ins n.names s) := by rw [hk]; exact Kq.ins_flat n.names s
  have HLE : Hid ((Kq.ins n.names s).length ≤ 3000) := by have e := Kq.len_ins n.names s; have e2 := hf.many; have e3 : (Kq.ins n.names s).length ≤ 3000 := (by omega); exact e3
  have HRI : Hid (Kq.Rises (Kq.ins n.names s)) := Kq.rises_ins h.rises hmem
  have HAD : Hid (Kq.add n s = { Kq.hold n (Kq.ins n.names s) with next := Kq.more n.next }) := by
    have e := Kq.add_yes hh
    rw [← Kq.len_ins n.names s] at e
    exact e
  clear hmem
  have hNm := Nm.of_row h.row
  have hcell : ∀ (j : Nat) s, n.names[j]? = some s → w.cell? ⟨g, j, none⟩ = some (.string s) := by
    rcases hNm with ⟨e, _⟩ | ⟨g', o', c', e, h1, h2⟩
    · cases e
    · simp only [Value.slice.injEq, Option.some.injEq, Addr.mk.injEq, and_true] at e
      obtain ⟨⟨rfl, rfl⟩, _, _⟩ := e
      intro j s hs
      have e := h2 j s hs
      rwa [Nat.zero_add] at e
  have HSR : Hid ((∀ w', Below w.heap.size w w' → Src w' (.slice (some ⟨g, 0, none⟩) k c) (n.names.take k)) ∧ ∀ w', Below w.heap.size w w' → Src w' (.slice (if c = k then some ⟨g, 0, none⟩ else some ⟨g, k, none⟩) (N - k) (c - k)) (n.names.drop k)) := by
    refine ⟨fun w' hb => ?_, fun w' hb => ?_⟩
    · refine Or.inr ⟨g, 0, c, by rw [List.length_take, Nat.min_eq_left (by omega)], fun j x hx => ?_⟩
      rw [List.getElem?_take] at hx
      split at hx
      · rw [Nat.zero_add]
        exact Below.kept hb (hcell j x hx)
      · cases hx
    · by_cases hcj : c = k
      · have hdr : n.names.drop k = [] := List.drop_eq_nil_iff.2 (by omega)
        rw [if_pos hcj]
        refine Or.inr ⟨g, 0, c - k, by rw [List.length_drop, ← hNc.1], fun j x hx => ?_⟩
        rw [hdr] at hx
        simp at hx
      · rw [if_neg hcj]
        refine Or.inr ⟨g, k, c - k, by rw [List.length_drop, ← hNc.1], fun j x hx => ?_⟩
        rw [List.getElem?_drop] at hx
        exact Below.kept hb (hcell _ x hx)
  clear hcell hNm
  have hLc : N ≤ c := hNc.2
  have hkN2 : k ≤ N := by rw [hk, hNc.1]; exact hkl
  have hN1 : N ≤ 1000 := by rw [hNc.1]; exact hf.many
  clear h hh hf hk hkl hNc hs
  have k0 : (0 : Int) ≤ (k : Int) := by omega
  have kN : (k : Int) ≤ (N : Int) := by omega
  have kc : (k : Int) ≤ (c : Int) := by omega
  unfold dptr
  go_enter Tryz.func106, Tryz.ntmps106
  have cc9 : w.cell? ⟨q, 9, none⟩ = some (.slice (some ⟨g, 0, none⟩) N c) := HOW.out.blk.cell 9
  go_wp2_with fail
  clear cc9
  refine HF.out.mono ?_
  rintro e w1 ⟨rfl, hb⟩
  have HO1 : Hid (Own11 w1 q n (.slice (some ⟨g, 0, none⟩) N c) ∧ Below w.heap.size w w1) := ⟨HOW.out.keep (fun k hk => hb.block k (HOW.out.flt hk)), hb⟩
  clear hb
  go_wp2_with fail
  refine wp_region_U (fun w' => w'.cell? ⟨q, 9, none⟩ = some (.slice (some ⟨g, 0, none⟩) N c)) [17] (by kernel_rfl) ?_
  have HO2 : Hid (Own11 w1.drew q n (.slice (some ⟨g, 0, none⟩) N c) ∧ Below w.heap.size w w1.drew) := ⟨HO1.out.1.keep (fun _ _ => rfl), HO1.out.2.drew⟩
  clear HO1
  generalize w1.drew = w2 at *
  refine' take_U (i := 0) (d := 17) (v := _) rfl rfl (by kernel_rfl) (by kernel_rfl) (by kernel_rfl) (by kernel_rfl) (by kernel_rfl) (by kernel_rfl) (fun _ _ _ h => h) (Or.inl ⟨by rfl, ?h0⟩) (HO2.out.1.blk.cell 9) ?_
  case h0 => intro w hSw; go_simp; with_reducible rfl
  simp only [List.setIfInBounds_toArray, List.set_cons_zero, List.set_cons_succ]
  refine' take_U (i := 1) (d := 18) (v := _) rfl rfl (by kernel_rfl) (by kernel_rfl) (by kernel_rfl) (by kernel_rfl) (by kernel_rfl) (by kernel_rfl) (fun _ _ _ h => h) (Or.inl ⟨by rfl, ?h1⟩) (HO2.out.1.blk.cell 9) ?_
  case h1 => intro w hSw; go_simp; with_reducible rfl
  simp only [List.setIfInBounds_toArray, List.set_cons_zero, List.set_cons_succ]
  refine' take_U (i := 2) (d := 19) (v := _) rfl rfl (by kernel_rfl) (by kernel_rfl) (by kernel_rfl) (by kernel_rfl) (by kernel_rfl) (by kernel_rfl) (fun _ _ _ h => h) (Or.inl ⟨by rfl, ?h2⟩) (HO2.out.1.blk.cell 9) ?_
  case h2 => intro w hSw; go_simp; with_reducible rfl
  simp only [List.setIfInBounds_toArray, List.set_cons_zero, List.set_cons_succ]
  refine' take_U (i := 3) (d := 20) (v := _) rfl rfl (by kernel_rfl) (by kernel_rfl) (by kernel_rfl) (by kernel_rfl) (by kernel_rfl) (by kernel_rfl) (fun _ _ _ h => h) (Or.inl ⟨by rfl, ?h3⟩) (HO2.out.1.blk.cell 9) ?_
  case h3 => intro w hSw; go_simp; with_reducible rfl
  simp only [List.setIfInBounds_toArray, List.set_cons_zero, List.set_cons_succ]
  refine' take_U (i := 4) (d := 21) (v := _) rfl rfl (by kernel_rfl) (by kernel_rfl) (by kernel_rfl) (by kernel_rfl) (by kernel_rfl) (by kernel_rfl) (fun _ _ _ h => h) (Or.inl ⟨by rfl, ?h4⟩) (HO2.out.1.blk.cell 9) ?_
  case h4 => intro w hSw; go_simp; with_reducible rfl
  simp only [List.setIfInBounds_toArray, List.set_cons_zero, List.set_cons_succ]
  refine' take_U (i := 5) (d := 22) (v := _) rfl rfl (by kernel_rfl) (by kernel_rfl) (by kernel_rfl) (by kernel_rfl) (by kernel_rfl) (by kernel_rfl) (fun _ _ _ h => h) (Or.inl ⟨by rfl, ?h5⟩) (HO2.out.1.blk.cell 9) ?_
  case h5 => intro w hSw; go_simp; with_reducible rfl
  simp only [List.setIfInBounds_toArray, List.set_cons_zero, List.set_cons_succ]
  refine' take_U (i := 6) (d := 23) (v := _) rfl rfl (by kernel_rfl) (by kernel_rfl) (by kernel_rfl) (by kernel_rfl) (by kernel_rfl) (by kernel_rfl) (fun _ _ _ h => h) (Or.inl ⟨by rfl, ?h6⟩) (HO2.out.1.blk.cell 9) ?_
  case h6 => intro w hSw; go_simp; with_reducible rfl
  simp only [List.setIfInBounds_toArray, List.set_cons_zero, List.set_cons_succ]
  refine' take_U (i := 7) (d := 24) (v := _) rfl rfl (by kernel_rfl) (by kernel_rfl) (by kernel_rfl) (by kernel_rfl) (by kernel_rfl) (by kernel_rfl) (fun _ _ _ h => h) (Or.inl ⟨by rfl, ?h7⟩) (HO2.out.1.blk.cell 9) ?_
  case h7 => intro w hSw; go_simp; with_reducible rfl
  simp only [List.setIfInBounds_toArray, List.set_cons_zero, List.set_cons_succ]
  refine' take_U (i := 10) (d := 27) (v := _) rfl rfl (by kernel_rfl) (by kernel_rfl) (by kernel_rfl) (by kernel_rfl) (by kernel_rfl) (by kernel_rfl) (fun _ _ _ h => h) (Or.inl ⟨by rfl, ?h10⟩) (HO2.out.1.blk.cell 9) ?_
  case h10 => intro w hSw; go_simp; with_reducible rfl
  simp only [List.setIfInBounds_toArray, List.set_cons_zero, List.set_cons_succ]
  refine' take_U (i := 11) (d := 28) (v := _) rfl rfl (by kernel_rfl) (by kernel_rfl) (by kernel_rfl) (by kernel_rfl) (by kernel_rfl) (by kernel_rfl) (fun _ _ _ h => h) (Or.inl ⟨by rfl, ?h11⟩) (HO2.out.1.blk.cell 9) ?_
  case h11 => intro w hSw; go_simp; with_reducible rfl
  simp only [List.setIfInBounds_toArray, List.set_cons_zero, List.set_cons_succ]
  refine' take_U (i := 12) (d := 29) (v := _) rfl rfl (by kernel_rfl) (by kernel_rfl) (by kernel_rfl) (by kernel_rfl) (by kernel_rfl) (by kernel_rfl) (fun _ _ _ h => h) (Or.inl ⟨by rfl, ?h12⟩) (HO2.out.1.blk.cell 9) ?_
  case h12 => intro w hSw; go_simp; with_reducible rfl
  simp only [List.setIfInBounds_toArray, List.set_cons_zero, List.set_cons_succ]
  refine' take_U (i := 13) (d := 30) (v := _) rfl rfl (by kernel_rfl) (by kernel_rfl) (by kernel_rfl) (by kernel_rfl) (by kernel_rfl) (by kernel_rfl) (fun _ _ _ h => h) (Or.inl ⟨by rfl, ?h13⟩) (HO2.out.1.blk.cell 9) ?_
  case h13 => intro w hSw; go_simp; with_reducible rfl
  simp only [List.setIfInBounds_toArray, List.set_cons_zero, List.set_cons_succ]
  refine' take_U (i := 14) (d := 31) (v := _) rfl rfl (by kernel_rfl) (by kernel_rfl) (by kernel_rfl) (by kernel_rfl) (by kernel_rfl) (by kernel_rfl) (fun _ _ _ h => h) (Or.inl ⟨by rfl, ?h14⟩) (HO2.out.1.blk.cell 9) ?_
  case h14 => intro w hSw; go_simp; with_reducible rfl
  simp only [List.setIfInBounds_toArray, List.set_cons_zero, List.set_cons_succ]
  refine' take_U (i := 15) (d := 32) (v := _) rfl rfl (by kernel_rfl) (by kernel_rfl) (by kernel_rfl) (by kernel_rfl) (by kernel_rfl) (by kernel_rfl) (fun _ _ _ h => h) (Or.inl ⟨by rfl, ?h15⟩) (HO2.out.1.blk.cell 9) ?_
  case h15 => intro w hSw; go_simp; with_reducible rfl
  simp only [List.setIfInBounds_toArray, List.set_cons_zero, List.set_cons_succ]
  refine wpAnyU_ready (rs := [8]) (by kernel_rfl) (by simp) ?_
  refine AllReadyU.cons (o := _) rfl (fun K hK => ?_) AllReadyU.nil
  go_simp
  refine (HSC.out _).mono ?_
  rintro e w3 ⟨rfl, hb⟩
  have HO3 : Hid (Own11 w3 q n (.slice (some ⟨g, 0, none⟩) N c) ∧ Below w.heap.size w w3) := ⟨HO2.out.1.keep (fun k hk => hb.block k (HO2.out.1.flt hk)), HO2.out.2.trans (hb.mono HO2.out.2.size)⟩
  clear hb
  simp only []
  refine hK.out _ _ (fun _ _ => HO3.out.1.blk.cell 9) ?_
  clear hK K
  refine wpAnyU_ready (rs := [9]) (by kernel_rfl) (by simp) ?_
  refine AllReadyU.cons (o := _) rfl (fun K hK => ?_) AllReadyU.nil
  go_simp
  obtain ⟨q3, hq3⟩ : ∃ z, z = w3.heap.size := ⟨_, rfl⟩
  rw [← hq3]
  have HSX : Hid (Src (w3.alloc (.cells #[.string s] 9)) (.slice (some ⟨q3, 0, none⟩) 1 1) [s]) := by rw [hq3]; exact Src.one w3 s _
  have hb := (Below.refl _ w3).alloc (Nat.le_refl _) (.cells #[.string s] 9)
  have HO4 : Hid (Own11 (w3.alloc (.cells #[.string s] 9)) q n (.slice (some ⟨g, 0, none⟩) N c) ∧ Below w.heap.size w (w3.alloc (.cells #[.string s] 9))) := ⟨HO3.out.1.keep (fun k hk => hb.block k (HO3.out.1.flt hk)), HO3.out.2.trans (hb.mono HO3.out.2.size)⟩
  clear hb hq3
  generalize w3.alloc (.cells #[.string s] 9) = w4 at *
  refine hK.out _ _ (fun _ _ => HO4.out.1.blk.cell 9) ?_
  clear hK K
  refine wpAnyU_ready (rs := [16]) (by kernel_rfl) (by simp) ?_
  refine AllReadyU.cons (o := _) rfl (fun K hK => ?_) AllReadyU.nil
  go_simp
  obtain ⟨q5, hq5⟩ : ∃ z, z = w4.heap.size := ⟨_, rfl⟩
  rw [← hq5]
  have hb := (Below.refl _ w4).alloc (Nat.le_refl _) (.cells #[.slice (some ⟨g, 0, none⟩) k c, .slice (some ⟨q3, 0, none⟩) 1 1, .slice (if c = k then some ⟨g, 0, none⟩ else some ⟨g, k, none⟩) (N - k) (c - k)] 36)
  have HO5 : Hid (Own11 (w4.alloc (.cells #[.slice (some ⟨g, 0, none⟩) k c, .slice (some ⟨q3, 0, none⟩) 1 1, .slice (if c = k then some ⟨g, 0, none⟩ else some ⟨g, k, none⟩) (N - k) (c - k)] 36)) q n (.slice (some ⟨g, 0, none⟩) N c) ∧ Below w.heap.size w (w4.alloc (.cells #[.slice (some ⟨g, 0, none⟩) k c, .slice (some ⟨q3, 0, none⟩) 1 1, .slice (if c = k then some ⟨g, 0, none⟩ else some ⟨g, k, none⟩) (N - k) (c - k)] 36))) := ⟨HO4.out.1.keep (fun k hk => hb.block k (HO4.out.1.flt hk)), HO4.out.2.trans (hb.mono HO4.out.2.size)⟩
  have HPC : Hid (Pcs (w4.alloc (.cells #[.slice (some ⟨g, 0, none⟩) k c, .slice (some ⟨q3, 0, none⟩) 1 1, .slice (if c = k then some ⟨g, 0, none⟩ else some ⟨g, k, none⟩) (N - k) (c - k)] 36)) (.slice (some ⟨q5, 0, none⟩) 3 3) [n.names.take k, [s], n.names.drop k]) := by
    refine ⟨q5, 0, 3, rfl, fun j l hl => ?_⟩
    have hcell : ∀ (j : Nat) u, (#[.slice (some ⟨g, 0, none⟩) k c, .slice (some ⟨q3, 0, none⟩) 1 1, .slice (if c = k then some ⟨g, 0, none⟩ else some ⟨g, k, none⟩) (N - k) (c - k)] : Array Value)[j]? = some u → (w4.alloc (.cells #[.slice (some ⟨g, 0, none⟩) k c, .slice (some ⟨q3, 0, none⟩) 1 1, .slice (if c = k then some ⟨g, 0, none⟩ else some ⟨g, k, none⟩) (N - k) (c - k)] 36)).cell? ⟨q5, 0 + j, none⟩ = some u := fun j u hu => by
      rw [hq5, Nat.zero_add]
      exact cell?_alloc_at _ _ _ _ _ _ hu
    match j, hl with
    | 0, hl =>
      obtain rfl := Option.some.inj hl
      exact ⟨_, hcell 0 _ rfl, HSR.out.1 _ HO5.out.2⟩
    | 1, hl =>
      obtain rfl := Option.some.inj hl
      exact ⟨_, hcell 1 _ rfl, HSX.out.below hb⟩
    | 2, hl =>
      obtain rfl := Option.some.inj hl
      exact ⟨_, hcell 2 _ rfl, HSR.out.2 _ HO5.out.2⟩
    | (j + 3), hl => simp at hl
  clear hb hq5
  generalize w4.alloc (.cells #[.slice (some ⟨g, 0, none⟩) k c, .slice (some ⟨q3, 0, none⟩) 1 1, .slice (if c = k then some ⟨g, 0, none⟩ else some ⟨g, k, none⟩) (N - k) (c - k)] 36) = w5 at *
  refine hK.out _ _ (fun _ _ => HO5.out.1.blk.cell 9) ?_
  clear hK K
  refine wpAnyU_ready (rs := [17]) (by kernel_rfl) (by simp) ?_
  refine AllReadyU.cons (o := _) rfl (fun K hK => ?_) AllReadyU.nil
  go_simp
  refine (hold_any11 q n (.slice (some ⟨g, 0, none⟩) N c) _ [n.names.take k, [s], n.names.drop k] w5 HO5.out.1.blk HFI.out.1 HPC.out (by show 3 ≤ 1000; decide) (by rw [HFL.out]; exact HLE.out)).mono ?_
  rintro e w6 ⟨v6, rfl, hc, ho, hg⟩
  rw [HFL.out] at hc ho
  obtain ⟨a6, c6, hv6, _⟩ := row_form ho
  obtain ⟨n6, hn6⟩ : ∃ z, z = (Kq.ins n.names s).length := ⟨_, rfl⟩
  rw [← hn6] at hv6
  subst hv6
  have H6 : Hid (Cb w6 q (k10 (Kq.hold n (Kq.ins n.names s)) (.slice a6 n6 c6)) 121 ∧ w6.ownsRow w5.heap.size 9 1 (.slice a6 n6 c6) (Kq.ins n.names s).length (sc (Kq.ins n.names s)) ∧ w5.grownBy w6 (some q)) := ⟨hc, ho, hg⟩
  clear hc ho hg hn6
  simp only []
  refine hK.out _ _ (fun h => absurd (by decide) h) ?_
  clear hK K
  refine wpAnyU_done (by kernel_rfl) ?_ _
  clear HSR
  generalize (if c = k then some (⟨g, 0, none⟩ : Addr) else some ⟨g, k, none⟩) = au
  have c8 : w6.cell? ⟨q, 8, none⟩ = some (.int .i64 n.next) := H6.out.1.cell 8
  have f8 := H6.out.1.free 8
  go_wp2_with fail
  refine (HMN.out _).mono ?_
  rintro e w7 ⟨rfl, hw⟩
  rw [hw]
  clear hw w7
  go_wp2
  go_ret
  clear c8 f8
  refine ⟨.slice a6 n6 c6, rfl, ?_, ?_⟩
  · rw [HAD.out]
    exact ⟨H6.out.1.set 8 _, (row_stays H6.out.2.1 (fun k hk => RowKit.Below.heap_setCell _ _ _ _ (fun e => H6.out.1.apart H6.out.2.1 (by decide) (by rw [hk]; exact congrArg some e)))).mono (Nat.zero_le _), HRI.out⟩
  · exact moved_hold HO5.out.2 H6.out.2.1 H6.out.2.2 (grownBy_setCell w6 ⟨q, 8, none⟩ (.int .i64 (Kq.more n.next)))
theorem add_any11 (q : Nat) (n : Kq.Kn) (v : Value) (s : ByteArray) (w : World) (h : Own11 w q n v) (hf : Fine10 n) (hs : s.size ≤ 20000) :
    Calls Tryz.prog 106 #[dptr q, .string s] w fun e w' => ∃ v', e = .returned (.bool (!Kq.has n.names s)) ∧ Own11 w' q (Kq.add n s) v' ∧ Moved w w' (Fn q v) (Fn q v') := by
  have hrow := h.row
  cases hh : Kq.has n.names s with
  | true =>
    obtain ⟨a, c, rfl, _⟩ := row_form hrow
    refine (add_no11 q n a _ c _ s w h hf hh rfl).mono ?_
    rintro e w' ⟨rfl, h1, h2⟩
    rw [Kq.add_no hh]
    exact ⟨_, rfl, h1, Moved.of_below _ h2⟩
  | false =>
    rcases hrow.2 with ⟨rfl, h0⟩ | ⟨g, cap, cur, rfl, _, _, hcap, _⟩
    · exact add_none11 q n 0 0 _ s w h ⟨h0.symm, Nat.le_refl _, rfl, rfl⟩ hf hs hh rfl
    · exact add_some11 q n g _ cap _ s w h ⟨rfl, hcap⟩ hf hs hh rfl
set_option maxRecDepth 20000 in
set_option maxHeartbeats 2000000 in
theorem remove_no11 (q : Nat) (n : Kq.Kn) (a : Option Addr) (N c k : Nat) (s : ByteArray) (w : World) (h : Own11 w q n (.slice a N c)) (hf : Fine10 n) (hh : Kq.has n.names s = false) (hk : k = (Kq.low n.names s).length) :
    Calls Tryz.prog 132 #[dptr q, .string s] w fun e w' => e = .returned (.bool false) ∧ Own11 w' q n (.slice a N c) ∧ Below w.heap.size w w' := by
  have HOW : Hid (Own11 w q n (.slice a N c)) := h
  have HF : Hid (Calls Tryz.prog 148 #[.slice a N c, .string s] w fun e w' => e = .returned (.tuple #[.int .i64 (k : Int), .bool false]) ∧ Below w.heap.size w w') := by
    refine (search_any10 (.slice a N c) n.names s w (Nm.of_row h.row) h.rises hf.many).mono ?_
    rintro e w' ⟨rfl, nq, rfl⟩
    rw [hh, ← hk]
    exact ⟨rfl, below_drewN (Below.refl _ _) _⟩
  have cc9 : w.cell? ⟨q, 9, none⟩ = some (.slice a N c) := h.blk.cell 9
  clear h hf hh hk
  unfold dptr
  go_enter Tryz.func132, Tryz.ntmps132
  go_wp2_with fail
  clear cc9
  refine HF.out.mono ?_
  rintro e w1 ⟨rfl, hb⟩
  have HO1 : Hid (Own11 w1 q n (.slice a N c) ∧ Below w.heap.size w w1) := ⟨HOW.out.keep (fun k hk => hb.block k (HOW.out.flt hk)), hb⟩
  clear hb
  go_wp2
  go_ret
  exact ⟨rfl, HO1.out.1, HO1.out.2⟩
set_option maxRecDepth 20000 in
set_option maxHeartbeats 8000000 in
theorem remove_some11 (q : Nat) (n : Kq.Kn) (g : Nat) (N c k : Nat) (s : ByteArray) (w : World) (h : Own11 w q n (.slice (some ⟨g, 0, none⟩) N c)) (hNc : N = n.names.length ∧ N ≤ c) (hf : Fine10 n) (hh : Kq.has n.names s = true) (hk : k = (Kq.low n.names s).length) :
    Calls Tryz.prog 132 #[dptr q, .string s] w fun e w' => ∃ v', e = .returned (.bool true) ∧ Own11 w' q (Kq.remove n s) v' ∧ Moved w w' (Fn q (.slice (some ⟨g, 0, none⟩) N c)) (Fn q v') := by
  have hkl := Kq.low_len n.names s
  have HOW : Hid (Own11 w q n (.slice (some ⟨g, 0, none⟩) N c)) := h
  have HFI : Hid ((-9223372036854775808 ≤ n.kids ∧ n.kids ≤ 9223372036854775807) ∧ (-9223372036854775808 ≤ n.next ∧ n.next ≤ 9223372036854775807)) := ⟨hf.kids, hf.next⟩
  have HF : Hid (Calls Tryz.prog 148 #[.slice (some ⟨g, 0, none⟩) N c, .string s] w fun e w' => e = .returned (.tuple #[.int .i64 (k : Int), .bool true]) ∧ Below w.heap.size w w') := by
    refine (search_any10 (.slice (some ⟨g, 0, none⟩) N c) n.names s w (Nm.of_row h.row) h.rises hf.many).mono ?_
    rintro e w' ⟨rfl, nq, rfl⟩
    rw [hh, ← hk]
    exact ⟨rfl, below_drewN (Below.refl _ _) _⟩
  have hmem := Kq.has_iff.1 hh
  have hcut := Kq.del_cut h.rises hmem
  have HFL : Hid ([n.names.take k, n.names.drop (k + 1)].flatten = Kq.del n.names s) := by
    have e : [n.names.take k, n.names.drop (k + 1)].flatten = Kq.del n.names s := by
      rw [hcut.1, ← hk]
      simp
    exact e
  have HLE : Hid ((Kq.del n.names s).length ≤ 3000) := by have e := Kq.len_del h.rises hmem; have e2 := hf.many; have e3 : (Kq.del n.names s).length ≤ 3000 := (by omega); exact e3
  have HRI : Hid (Kq.Rises (Kq.del n.names s)) := Kq.rises_del s h.rises
  have HAD : Hid (Kq.remove n s = Kq.hold n (Kq.del n.names s)) := by
    have e := Kq.remove_yes hh
    rw [← (Kq.len_del h.rises hmem).1] at e
    exact e
  have hk1 : k < N := by rw [hk, hNc.1]; exact hcut.2
  clear hmem hcut
  have hNm := Nm.of_row h.row
  have hcell : ∀ (j : Nat) s, n.names[j]? = some s → w.cell? ⟨g, j, none⟩ = some (.string s) := by
    rcases hNm with ⟨e, _⟩ | ⟨g', o', c', e, h1, h2⟩
    · cases e
    · simp only [Value.slice.injEq, Option.some.injEq, Addr.mk.injEq, and_true] at e
      obtain ⟨⟨rfl, rfl⟩, _, _⟩ := e
      intro j s hs
      have e := h2 j s hs
      rwa [Nat.zero_add] at e
  have HSR : Hid ((∀ w', Below w.heap.size w w' → Src w' (.slice (some ⟨g, 0, none⟩) k c) (n.names.take k)) ∧ ∀ w', Below w.heap.size w w' → Src w' (.slice (if c = k + 1 then some ⟨g, 0, none⟩ else some ⟨g, k + 1, none⟩) (N - (k + 1)) (c - (k + 1))) (n.names.drop (k + 1))) := by
    refine ⟨fun w' hb => ?_, fun w' hb => ?_⟩
    · refine Or.inr ⟨g, 0, c, by rw [List.length_take, Nat.min_eq_left (by omega)], fun j x hx => ?_⟩
      rw [List.getElem?_take] at hx
      split at hx
      · rw [Nat.zero_add]
        exact Below.kept hb (hcell j x hx)
      · cases hx
    · by_cases hcj : c = k + 1
      · have hdr : n.names.drop (k + 1) = [] := List.drop_eq_nil_iff.2 (by omega)
        rw [if_pos hcj]
        refine Or.inr ⟨g, 0, c - (k + 1), by rw [List.length_drop, ← hNc.1], fun j x hx => ?_⟩
        rw [hdr] at hx
        simp at hx
      · rw [if_neg hcj]
        refine Or.inr ⟨g, k + 1, c - (k + 1), by rw [List.length_drop, ← hNc.1], fun j x hx => ?_⟩
        rw [List.getElem?_drop] at hx
        exact Below.kept hb (hcell _ x hx)
  clear hcell hNm
  have hLc : N ≤ c := hNc.2
  have hkN2 : k ≤ N := by rw [hk, hNc.1]; exact hkl
  have hN1 : N ≤ 1000 := by rw [hNc.1]; exact hf.many
  clear h hh hf hk hkl hNc
  have k0 : (0 : Int) ≤ (k : Int) := by omega
  have kN : (k : Int) ≤ (N : Int) := by omega
  have kc : (k : Int) ≤ (c : Int) := by omega
  have k10' : (0 : Int) ≤ (k : Int) + 1 := by omega
  have k1N : (k : Int) + 1 ≤ (N : Int) := by omega
  have k1c : (k : Int) + 1 ≤ (c : Int) := by omega
  have hw1 : IntKind.wrap .i64 ((k : Int) + 1) = (k : Int) + 1 := by rw [IntKind.wrap_i64]; omega
  unfold dptr
  go_enter Tryz.func132, Tryz.ntmps132
  have cc9 : w.cell? ⟨q, 9, none⟩ = some (.slice (some ⟨g, 0, none⟩) N c) := HOW.out.blk.cell 9
  go_wp2_with fail
  clear cc9
  refine HF.out.mono ?_
  rintro e w1 ⟨rfl, hb⟩
  have HO1 : Hid (Own11 w1 q n (.slice (some ⟨g, 0, none⟩) N c) ∧ Below w.heap.size w w1) := ⟨HOW.out.keep (fun k hk => hb.block k (HOW.out.flt hk)), hb⟩
  clear hb
  go_wp2_with fail
  refine wp_region_U (fun w' => w'.cell? ⟨q, 9, none⟩ = some (.slice (some ⟨g, 0, none⟩) N c)) [15] (by kernel_rfl) ?_
  have HO2 : Hid (Own11 w1.drew q n (.slice (some ⟨g, 0, none⟩) N c) ∧ Below w.heap.size w w1.drew) := ⟨HO1.out.1.keep (fun _ _ => rfl), HO1.out.2.drew⟩
  clear HO1
  generalize w1.drew = w2 at *
  refine' take_U (i := 0) (d := 18) (v := _) rfl rfl (by kernel_rfl) (by kernel_rfl) (by kernel_rfl) (by kernel_rfl) (by kernel_rfl) (by kernel_rfl) (fun _ _ _ h => h) (Or.inl ⟨by rfl, ?h0⟩) (HO2.out.1.blk.cell 9) ?_
  case h0 => intro w hSw; go_simp; with_reducible rfl
  simp only [List.setIfInBounds_toArray, List.set_cons_zero, List.set_cons_succ]
  refine' take_U (i := 1) (d := 19) (v := _) rfl rfl (by kernel_rfl) (by kernel_rfl) (by kernel_rfl) (by kernel_rfl) (by kernel_rfl) (by kernel_rfl) (fun _ _ _ h => h) (Or.inl ⟨by rfl, ?h1⟩) (HO2.out.1.blk.cell 9) ?_
  case h1 => intro w hSw; go_simp; with_reducible rfl
  simp only [List.setIfInBounds_toArray, List.set_cons_zero, List.set_cons_succ]
  refine' take_U (i := 2) (d := 20) (v := _) rfl rfl (by kernel_rfl) (by kernel_rfl) (by kernel_rfl) (by kernel_rfl) (by kernel_rfl) (by kernel_rfl) (fun _ _ _ h => h) (Or.inl ⟨by rfl, ?h2⟩) (HO2.out.1.blk.cell 9) ?_
  case h2 => intro w hSw; go_simp; with_reducible rfl
  simp only [List.setIfInBounds_toArray, List.set_cons_zero, List.set_cons_succ]
  refine' take_U (i := 3) (d := 21) (v := _) rfl rfl (by kernel_rfl) (by kernel_rfl) (by kernel_rfl) (by kernel_rfl) (by kernel_rfl) (by kernel_rfl) (fun _ _ _ h => h) (Or.inl ⟨by rfl, ?h3⟩) (HO2.out.1.blk.cell 9) ?_
  case h3 => intro w hSw; go_simp; with_reducible rfl
  simp only [List.setIfInBounds_toArray, List.set_cons_zero, List.set_cons_succ]
  refine' take_U (i := 4) (d := 22) (v := _) rfl rfl (by kernel_rfl) (by kernel_rfl) (by kernel_rfl) (by kernel_rfl) (by kernel_rfl) (by kernel_rfl) (fun _ _ _ h => h) (Or.inl ⟨by rfl, ?h4⟩) (HO2.out.1.blk.cell 9) ?_
  case h4 => intro w hSw; go_simp; with_reducible rfl
  simp only [List.setIfInBounds_toArray, List.set_cons_zero, List.set_cons_succ]
  refine' take_U (i := 5) (d := 23) (v := _) rfl rfl (by kernel_rfl) (by kernel_rfl) (by kernel_rfl) (by kernel_rfl) (by kernel_rfl) (by kernel_rfl) (fun _ _ _ h => h) (Or.inl ⟨by rfl, ?h5⟩) (HO2.out.1.blk.cell 9) ?_
  case h5 => intro w hSw; go_simp; with_reducible rfl
  simp only [List.setIfInBounds_toArray, List.set_cons_zero, List.set_cons_succ]
  refine' take_U (i := 6) (d := 24) (v := _) rfl rfl (by kernel_rfl) (by kernel_rfl) (by kernel_rfl) (by kernel_rfl) (by kernel_rfl) (by kernel_rfl) (fun _ _ _ h => h) (Or.inl ⟨by rfl, ?h6⟩) (HO2.out.1.blk.cell 9) ?_
  case h6 => intro w hSw; go_simp; with_reducible rfl
  simp only [List.setIfInBounds_toArray, List.set_cons_zero, List.set_cons_succ]
  refine' take_U (i := 7) (d := 25) (v := _) rfl rfl (by kernel_rfl) (by kernel_rfl) (by kernel_rfl) (by kernel_rfl) (by kernel_rfl) (by kernel_rfl) (fun _ _ _ h => h) (Or.inl ⟨by rfl, ?h7⟩) (HO2.out.1.blk.cell 9) ?_
  case h7 => intro w hSw; go_simp; with_reducible rfl
  simp only [List.setIfInBounds_toArray, List.set_cons_zero, List.set_cons_succ]
  refine' take_U (i := 8) (d := 26) (v := _) rfl rfl (by kernel_rfl) (by kernel_rfl) (by kernel_rfl) (by kernel_rfl) (by kernel_rfl) (by kernel_rfl) (fun _ _ _ h => h) (Or.inl ⟨by rfl, ?h8⟩) (HO2.out.1.blk.cell 9) ?_
  case h8 => intro w hSw; go_simp; with_reducible rfl
  simp only [List.setIfInBounds_toArray, List.set_cons_zero, List.set_cons_succ]
  refine' take_U (i := 9) (d := 27) (v := _) rfl rfl (by kernel_rfl) (by kernel_rfl) (by kernel_rfl) (by kernel_rfl) (by kernel_rfl) (by kernel_rfl) (fun _ _ _ h => h) (Or.inl ⟨by rfl, ?h9⟩) (HO2.out.1.blk.cell 9) ?_
  case h9 => intro w hSw; go_simp; with_reducible rfl
  simp only [List.setIfInBounds_toArray, List.set_cons_zero, List.set_cons_succ]
  refine' take_U (i := 10) (d := 28) (v := _) rfl rfl (by kernel_rfl) (by kernel_rfl) (by kernel_rfl) (by kernel_rfl) (by kernel_rfl) (by kernel_rfl) (fun _ _ _ h => h) (Or.inl ⟨by rfl, ?h10⟩) (HO2.out.1.blk.cell 9) ?_
  case h10 => intro w hSw; go_simp; with_reducible rfl
  simp only [List.setIfInBounds_toArray, List.set_cons_zero, List.set_cons_succ]
  refine' take_U (i := 11) (d := 29) (v := _) rfl rfl (by kernel_rfl) (by kernel_rfl) (by kernel_rfl) (by kernel_rfl) (by kernel_rfl) (by kernel_rfl) (fun _ _ _ h => h) (Or.inl ⟨by rfl, ?h11⟩) (HO2.out.1.blk.cell 9) ?_
  case h11 => intro w hSw; go_simp; with_reducible rfl
  simp only [List.setIfInBounds_toArray, List.set_cons_zero, List.set_cons_succ]
  refine' take_U (i := 12) (d := 30) (v := _) rfl rfl (by kernel_rfl) (by kernel_rfl) (by kernel_rfl) (by kernel_rfl) (by kernel_rfl) (by kernel_rfl) (fun _ _ _ h => h) (Or.inl ⟨by rfl, ?h12⟩) (HO2.out.1.blk.cell 9) ?_
  case h12 => intro w hSw; go_simp; with_reducible rfl
  simp only [List.setIfInBounds_toArray, List.set_cons_zero, List.set_cons_succ]
  refine' take_U (i := 13) (d := 31) (v := _) rfl rfl (by kernel_rfl) (by kernel_rfl) (by kernel_rfl) (by kernel_rfl) (by kernel_rfl) (by kernel_rfl) (fun _ _ _ h => h) (Or.inl ⟨by rfl, ?h13⟩) (HO2.out.1.blk.cell 9) ?_
  case h13 => intro w hSw; go_simp; with_reducible rfl
  simp only [List.setIfInBounds_toArray, List.set_cons_zero, List.set_cons_succ]
  refine wpAnyU_ready (rs := [14]) (by kernel_rfl) (by simp) ?_
  refine AllReadyU.cons (o := _) rfl (fun K hK => ?_) AllReadyU.nil
  go_simp
  obtain ⟨q5, hq5⟩ : ∃ z, z = w2.heap.size := ⟨_, rfl⟩
  rw [← hq5]
  have hb := (Below.refl _ w2).alloc (Nat.le_refl _) (.cells #[.slice (some ⟨g, 0, none⟩) k c, .slice (if c = k + 1 then some ⟨g, 0, none⟩ else some ⟨g, k + 1, none⟩) (N - (k + 1)) (c - (k + 1))] 36)
  have HO5 : Hid (Own11 (w2.alloc (.cells #[.slice (some ⟨g, 0, none⟩) k c, .slice (if c = k + 1 then some ⟨g, 0, none⟩ else some ⟨g, k + 1, none⟩) (N - (k + 1)) (c - (k + 1))] 36)) q n (.slice (some ⟨g, 0, none⟩) N c) ∧ Below w.heap.size w (w2.alloc (.cells #[.slice (some ⟨g, 0, none⟩) k c, .slice (if c = k + 1 then some ⟨g, 0, none⟩ else some ⟨g, k + 1, none⟩) (N - (k + 1)) (c - (k + 1))] 36))) := ⟨HO2.out.1.keep (fun k hk => hb.block k (HO2.out.1.flt hk)), HO2.out.2.trans (hb.mono HO2.out.2.size)⟩
  have HPC : Hid (Pcs (w2.alloc (.cells #[.slice (some ⟨g, 0, none⟩) k c, .slice (if c = k + 1 then some ⟨g, 0, none⟩ else some ⟨g, k + 1, none⟩) (N - (k + 1)) (c - (k + 1))] 36)) (.slice (some ⟨q5, 0, none⟩) 2 2) [n.names.take k, n.names.drop (k + 1)]) := by
    refine ⟨q5, 0, 2, rfl, fun j l hl => ?_⟩
    have hcell : ∀ (j : Nat) u, (#[.slice (some ⟨g, 0, none⟩) k c, .slice (if c = k + 1 then some ⟨g, 0, none⟩ else some ⟨g, k + 1, none⟩) (N - (k + 1)) (c - (k + 1))] : Array Value)[j]? = some u → (w2.alloc (.cells #[.slice (some ⟨g, 0, none⟩) k c, .slice (if c = k + 1 then some ⟨g, 0, none⟩ else some ⟨g, k + 1, none⟩) (N - (k + 1)) (c - (k + 1))] 36)).cell? ⟨q5, 0 + j, none⟩ = some u := fun j u hu => by
      rw [hq5, Nat.zero_add]
      exact cell?_alloc_at _ _ _ _ _ _ hu
    match j, hl with
    | 0, hl =>
      obtain rfl := Option.some.inj hl
      exact ⟨_, hcell 0 _ rfl, HSR.out.1 _ HO5.out.2⟩
    | 1, hl =>
      obtain rfl := Option.some.inj hl
      exact ⟨_, hcell 1 _ rfl, HSR.out.2 _ HO5.out.2⟩
    | (j + 2), hl => simp at hl
  clear hb hq5
  generalize w2.alloc (.cells #[.slice (some ⟨g, 0, none⟩) k c, .slice (if c = k + 1 then some ⟨g, 0, none⟩ else some ⟨g, k + 1, none⟩) (N - (k + 1)) (c - (k + 1))] 36) = w5 at *
  refine hK.out _ _ (fun _ _ => HO5.out.1.blk.cell 9) ?_
  clear hK K
  refine wpAnyU_ready (rs := [15]) (by kernel_rfl) (by simp) ?_
  refine AllReadyU.cons (o := _) rfl (fun K hK => ?_) AllReadyU.nil
  go_simp
  refine (hold_any11 q n (.slice (some ⟨g, 0, none⟩) N c) _ [n.names.take k, n.names.drop (k + 1)] w5 HO5.out.1.blk HFI.out.1 HPC.out (by show 2 ≤ 1000; decide) (by rw [HFL.out]; exact HLE.out)).mono ?_
  rintro e w6 ⟨v6, rfl, hc, ho, hg⟩
  rw [HFL.out] at hc ho
  obtain ⟨a6, c6, hv6, _⟩ := row_form ho
  obtain ⟨n6, hn6⟩ : ∃ z, z = (Kq.del n.names s).length := ⟨_, rfl⟩
  rw [← hn6] at hv6
  subst hv6
  have H6 : Hid (Cb w6 q (k10 (Kq.hold n (Kq.del n.names s)) (.slice a6 n6 c6)) 121 ∧ w6.ownsRow w5.heap.size 9 1 (.slice a6 n6 c6) (Kq.del n.names s).length (sc (Kq.del n.names s)) ∧ w5.grownBy w6 (some q)) := ⟨hc, ho, hg⟩
  clear hc ho hg hn6
  simp only []
  refine hK.out _ _ (fun h => absurd (by decide) h) ?_
  clear hK K
  refine wpAnyU_done (by kernel_rfl) ?_ _
  clear HSR
  generalize (if c = k + 1 then some (⟨g, 0, none⟩ : Addr) else some ⟨g, k + 1, none⟩) = au
  go_wp2
  go_ret
  refine ⟨.slice a6 n6 c6, rfl, ?_, ?_⟩
  · rw [HAD.out]
    exact ⟨H6.out.1, H6.out.2.1.mono (Nat.zero_le _), HRI.out⟩
  · exact moved_hold HO5.out.2 H6.out.2.1 H6.out.2.2 ⟨rfl, rfl, rfl, Nat.le_refl _, fun _ _ _ => rfl⟩
theorem remove_any11 (q : Nat) (n : Kq.Kn) (v : Value) (s : ByteArray) (w : World) (h : Own11 w q n v) (hf : Fine10 n)  :
    Calls Tryz.prog 132 #[dptr q, .string s] w fun e w' => ∃ v', e = .returned (.bool (Kq.has n.names s)) ∧ Own11 w' q (Kq.remove n s) v' ∧ Moved w w' (Fn q v) (Fn q v') := by
  have hrow := h.row
  cases hh : Kq.has n.names s with
  | false =>
    obtain ⟨a, c, rfl, _⟩ := row_form hrow
    refine (remove_no11 q n a _ c _ s w h hf hh rfl).mono ?_
    rintro e w' ⟨rfl, h1, h2⟩
    rw [Kq.remove_no hh]
    exact ⟨_, rfl, h1, Moved.of_below _ h2⟩
  | true =>
    rcases hrow.2 with ⟨rfl, h0⟩ | ⟨g, cap, cur, rfl, _, _, hcap, _⟩
    · rw [List.length_eq_zero_iff.1 h0] at hh
      cases hh
    · exact remove_some11 q n g _ cap _ s w h ⟨rfl, hcap⟩ hf hh rfl
end Go.Proofs.YtpidafpaffpnaaaGreatDoor
