/- What the landed node's Add and Remove answer. What the landed tree's Drop does. What the landed tree's change does. What the landed tree's Do does. What the landed tree's twin and Node answer. -/
import Derived.Test.YtboejbjobjhajaaGreatDoorWtk
import Derived.Test.YtboejbjobjhajaaGreatDoorWnd
import Derived.Test.YtboejbjobjhajaaGreatDoorWt1
namespace Go.Proofs.YtboejbjobjhajaaGreatDoor
open Go.RowKit

theorem moved_hold {w w5 w6 w7 : World} {q N : Nat} {v v' : Value} {l : List Value} (h5 : Below w.heap.size w w5) (ho : w6.ownsRow w5.heap.size 9 1 v' N l) (h6 : w5.grownBy w6 (some q)) (h7 : w6.grownBy w7 (some q)) : Moved w w7 (Fn q v) (Fn q v') := by
  have hs := h5.size
  have hs2 := h6.size
  refine ⟨h7.os.trans (h6.os.trans h5.os), h7.tape.trans (h6.tape.trans h5.tape), h7.output.trans (h6.output.trans h5.output), Nat.le_trans hs (Nat.le_trans hs2 h7.size), fun k hk hF => ?_, fun k hk => ?_⟩
  · have hq : some k ≠ some q := fun e => hF (Or.inl (Option.some.inj e))
    rw [h7.block k (by omega) hq, h6.block k (by omega) hq, h5.block k hk]
  · rcases hk with rfl | hk
    · exact Or.inl (Or.inl rfl)
    · exact Or.inr (Nat.le_trans hs (ho.lt k hk).1)

set_option maxRecDepth 20000 in
set_option maxHeartbeats 2000000 in
theorem add_no11 (q : Nat) (n : Kq.Kn) (a : Option Addr) (N c k : Nat) (s : ByteArray) (w : World) (h : Own11 w q n (.slice a N c)) (hf : Fine10 n) (hh : Kq.has n.names s = true) (hk : k = (Kq.low n.names s).length) :
    Calls Tryz.prog 201 #[dptr q, .string s] w fun e w' => e = .returned (.bool false) ∧ Own11 w' q n (.slice a N c) ∧ Below w.heap.size w w' := by
  have HOW : Hid (Own11 w q n (.slice a N c)) := h
  have HF : Hid (Calls Tryz.prog 215 #[.slice a N c, .string s] w fun e w' => e = .returned (.tuple #[.int .i64 (k : Int), .bool true]) ∧ Below w.heap.size w w') := by
    refine (search_any10 (.slice a N c) n.names s w (Nm.of_row h.row) h.rises hf.many).mono ?_
    rintro e w' ⟨rfl, nq, rfl⟩
    rw [hh, ← hk]
    exact ⟨rfl, below_drewN (Below.refl _ _) _⟩
  have cc9 : w.cell? ⟨q, 9, none⟩ = some (.slice a N c) := h.blk.cell 9
  clear h hf hh hk
  unfold dptr
  go_enter Tryz.func201, Tryz.ntmps201
  go_wp2_with fail
  clear cc9
  refine HF.out.mono ?_
  rintro e w1 ⟨rfl, hb⟩
  have HO1 : Hid (Own11 w1 q n (.slice a N c) ∧ Below w.heap.size w w1) := ⟨HOW.out.keep (fun k hk => hb.block k (HOW.out.flt hk)), hb⟩
  clear hb
  go_wp2
  go_ret
  exact ⟨rfl, HO1.out.1, HO1.out.2⟩
set_option maxRecDepth 20000 in
set_option maxHeartbeats 8000000 in
theorem add_none11 (q : Nat) (n : Kq.Kn) (N c k : Nat) (s : ByteArray) (w : World) (h : Own11 w q n (.slice (none) N c)) (hNc : N = n.names.length ∧ N ≤ c ∧ N = 0 ∧ c = 0) (hf : Fine10 n) (hs : s.size ≤ 20000) (hh : Kq.has n.names s = false) (hk : k = (Kq.low n.names s).length) :
    Calls Tryz.prog 201 #[dptr q, .string s] w fun e w' => ∃ v', e = .returned (.bool true) ∧ Own11 w' q (Kq.add n s) v' ∧ Moved w w' (Fn q (.slice (none) N c)) (Fn q v') := by
  have hkl := Kq.low_len n.names s
  have HOW : Hid (Own11 w q n (.slice (none) N c)) := h
  have HFI : Hid ((-9223372036854775808 ≤ n.kids ∧ n.kids ≤ 9223372036854775807) ∧ (-9223372036854775808 ≤ n.next ∧ n.next ≤ 9223372036854775807)) := ⟨hf.kids, hf.next⟩
  have HF : Hid (Calls Tryz.prog 215 #[.slice (none) N c, .string s] w fun e w' => e = .returned (.tuple #[.int .i64 (k : Int), .bool false]) ∧ Below w.heap.size w w') := by
    refine (search_any10 (.slice (none) N c) n.names s w (Nm.of_row h.row) h.rises hf.many).mono ?_
    rintro e w' ⟨rfl, nq, rfl⟩
    rw [hh, ← hk]
    exact ⟨rfl, below_drewN (Below.refl _ _) _⟩
  have hmem : s ∉ n.names := fun e => by rw [Kq.has_iff.2 e] at hh; cases hh
  have HSC : Hid (∀ w, Calls Tryz.prog 97 #[.string s] w fun e w' => e = .returned (.string s) ∧ Below w.heap.size w w') := fun w => sclone_any10 s w (by omega)
  have HMN : Hid (∀ w, Calls Tryz.prog 161 #[.int .i64 n.next] w fun e w' => e = .returned (.int .i64 (Kq.more n.next)) ∧ w' = w) := fun w => oneMore_any10 n.next w hf.next
  have HFL : Hid ([n.names.take k, [s], n.names.drop k].flatten = Kq.ins n.names s) := by rw [hk]; exact Kq.ins_flat n.names s
  have HLE : Hid ((Kq.ins n.names s).length ≤ 3000) := by have e := Kq.len_ins n.names s; have e2 := hf.many; have e3 : (Kq.ins n.names s).length ≤ 3000 := (by omega); exact e3
  have HRI : Hid (Kq.Rises (Kq.ins n.names s)) := Kq.rises_ins h.rises hmem
  have HAD : Hid (Kq.add n s = { Kq.hold n (Kq.ins n.names s) with next := Kq.more n.next }) := by
    have e := Kq.add_yes hh
    rw [← Kq.len_ins n.names s] at e
    exact e
  clear hmem
  have HSR : Hid ((∀ w', Below w.heap.size w w' → Src w' (.slice (none) k c) (n.names.take k)) ∧ ∀ w', Below w.heap.size w w' → Src w' (.slice none (N - k) (c - k)) (n.names.drop k)) := by
    have e1 : k = 0 := by omega
    have e2 : N - k = 0 := by omega
    have e3 : c - k = 0 := by omega
    refine ⟨fun w' hb => Or.inl ⟨by rw [e1, hNc.2.2.2], by rw [e1]; rfl⟩, fun w' hb => Or.inl ⟨by rw [e2, e3], List.drop_eq_nil_iff.2 (by omega)⟩⟩
  have hLc : N ≤ c := hNc.2.1
  have hkN2 : k ≤ N := by rw [hk, hNc.1]; exact hkl
  have hN1 : N ≤ 1000 := by rw [hNc.1]; exact hf.many
  clear h hh hf hk hkl hNc hs
  have k0 : (0 : Int) ≤ (k : Int) := by omega
  have kN : (k : Int) ≤ (N : Int) := by omega
  have kc : (k : Int) ≤ (c : Int) := by omega
  unfold dptr
  go_enter Tryz.func201, Tryz.ntmps201
  have cc9 : w.cell? ⟨q, 9, none⟩ = some (.slice (none) N c) := HOW.out.blk.cell 9
  go_wp2_with fail
  clear cc9
  refine HF.out.mono ?_
  rintro e w1 ⟨rfl, hb⟩
  have HO1 : Hid (Own11 w1 q n (.slice (none) N c) ∧ Below w.heap.size w w1) := ⟨HOW.out.keep (fun k hk => hb.block k (HOW.out.flt hk)), hb⟩
  clear hb
  go_wp2_with fail
  refine wp_region_U (fun w' => w'.cell? ⟨q, 9, none⟩ = some (.slice (none) N c)) [17] (by kernel_rfl) ?_
  have HO2 : Hid (Own11 w1.drew q n (.slice (none) N c) ∧ Below w.heap.size w w1.drew) := ⟨HO1.out.1.keep (fun _ _ => rfl), HO1.out.2.drew⟩
  clear HO1
  generalize w1.drew = w2 at *
  refine' take_U (i := 0) (d := 17) (v := _) rfl rfl (by kernel_rfl) (by kernel_rfl) (by kernel_rfl) (by kernel_rfl) (by kernel_rfl) (by kernel_rfl) (fun _ _ _ h => h) (Or.inl ⟨by rfl, ?h0⟩) (HO2.out.1.blk.cell 9) ?_
  case h0 => intro w hSw; go_simp; with_reducible rfl
  simp only [List.setIfInBounds_toArray, List.set_cons_zero, List.set_cons_succ]
  refine' take_U (i := 1) (d := 18) (v := _) rfl rfl (by kernel_rfl) (by kernel_rfl) (by kernel_rfl) (by kernel_rfl) (by kernel_rfl) (by kernel_rfl) (fun _ _ _ h => h) (Or.inl ⟨by rfl, ?h1⟩) (HO2.out.1.blk.cell 9) ?_
  case h1 => intro w hSw; go_simp; with_reducible rfl
  simp only [List.setIfInBounds_toArray, List.set_cons_zero, List.set_cons_succ]
  refine' take_U (i := 2) (d := 19) (v := _) rfl rfl (by kernel_rfl) (by kernel_rfl) (by kernel_rfl) (by kernel_rfl) (by kernel_rfl) (by kernel_rfl) (fun _ _ _ h => h) (Or.inl ⟨by rfl, ?h2⟩) (HO2.out.1.blk.cell 9) ?_
  case h2 => intro w hSw; go_simp; with_reducible rfl
  simp only [List.setIfInBounds_toArray, List.set_cons_zero, List.set_cons_succ]
  refine' take_U (i := 3) (d := 20) (v := _) rfl rfl (by kernel_rfl) (by kernel_rfl) (by kernel_rfl) (by kernel_rfl) (by kernel_rfl) (by kernel_rfl) (fun _ _ _ h => h) (Or.inl ⟨by rfl, ?h3⟩) (HO2.out.1.blk.cell 9) ?_
  case h3 => intro w hSw; go_simp; with_reducible rfl
  simp only [List.setIfInBounds_toArray, List.set_cons_zero, List.set_cons_succ]
  refine' take_U (i := 4) (d := 21) (v := _) rfl rfl (by kernel_rfl) (by kernel_rfl) (by kernel_rfl) (by kernel_rfl) (by kernel_rfl) (by kernel_rfl) (fun _ _ _ h => h) (Or.inl ⟨by rfl, ?h4⟩) (HO2.out.1.blk.cell 9) ?_
  case h4 => intro w hSw; go_simp; with_reducible rfl
  simp only [List.setIfInBounds_toArray, List.set_cons_zero, List.set_cons_succ]
  refine' take_U (i := 5) (d := 22) (v := _) rfl rfl (by kernel_rfl) (by kernel_rfl) (by kernel_rfl) (by kernel_rfl) (by kernel_rfl) (by kernel_rfl) (fun _ _ _ h => h) (Or.inl ⟨by rfl, ?h5⟩) (HO2.out.1.blk.cell 9) ?_
  case h5 => intro w hSw; go_simp; with_reducible rfl
  simp only [List.setIfInBounds_toArray, List.set_cons_zero, List.set_cons_succ]
  refine' take_U (i := 6) (d := 23) (v := _) rfl rfl (by kernel_rfl) (by kernel_rfl) (by kernel_rfl) (by kernel_rfl) (by kernel_rfl) (by kernel_rfl) (fun _ _ _ h => h) (Or.inl ⟨by rfl, ?h6⟩) (HO2.out.1.blk.cell 9) ?_
  case h6 => intro w hSw; go_simp; with_reducible rfl
  simp only [List.setIfInBounds_toArray, List.set_cons_zero, List.set_cons_succ]
  refine' take_U (i := 7) (d := 24) (v := _) rfl rfl (by kernel_rfl) (by kernel_rfl) (by kernel_rfl) (by kernel_rfl) (by kernel_rfl) (by kernel_rfl) (fun _ _ _ h => h) (Or.inl ⟨by rfl, ?h7⟩) (HO2.out.1.blk.cell 9) ?_
  case h7 => intro w hSw; go_simp; with_reducible rfl
  simp only [List.setIfInBounds_toArray, List.set_cons_zero, List.set_cons_succ]
  refine' take_U (i := 10) (d := 27) (v := _) rfl rfl (by kernel_rfl) (by kernel_rfl) (by kernel_rfl) (by kernel_rfl) (by kernel_rfl) (by kernel_rfl) (fun _ _ _ h => h) (Or.inl ⟨by rfl, ?h10⟩) (HO2.out.1.blk.cell 9) ?_
  case h10 => intro w hSw; go_simp; with_reducible rfl
  simp only [List.setIfInBounds_toArray, List.set_cons_zero, List.set_cons_succ]
  refine' take_U (i := 11) (d := 28) (v := _) rfl rfl (by kernel_rfl) (by kernel_rfl) (by kernel_rfl) (by kernel_rfl) (by kernel_rfl) (by kernel_rfl) (fun _ _ _ h => h) (Or.inl ⟨by rfl, ?h11⟩) (HO2.out.1.blk.cell 9) ?_
  case h11 => intro w hSw; go_simp; with_reducible rfl
  simp only [List.setIfInBounds_toArray, List.set_cons_zero, List.set_cons_succ]
  refine' take_U (i := 12) (d := 29) (v := _) rfl rfl (by kernel_rfl) (by kernel_rfl) (by kernel_rfl) (by kernel_rfl) (by kernel_rfl) (by kernel_rfl) (fun _ _ _ h => h) (Or.inl ⟨by rfl, ?h12⟩) (HO2.out.1.blk.cell 9) ?_
  case h12 => intro w hSw; go_simp; with_reducible rfl
  simp only [List.setIfInBounds_toArray, List.set_cons_zero, List.set_cons_succ]
  refine' take_U (i := 13) (d := 30) (v := _) rfl rfl (by kernel_rfl) (by kernel_rfl) (by kernel_rfl) (by kernel_rfl) (by kernel_rfl) (by kernel_rfl) (fun _ _ _ h => h) (Or.inl ⟨by rfl, ?h13⟩) (HO2.out.1.blk.cell 9) ?_
  case h13 => intro w hSw; go_simp; with_reducible rfl
  simp only [List.setIfInBounds_toArray, List.set_cons_zero, List.set_cons_succ]
  refine' take_U (i := 14) (d := 31) (v := _) rfl rfl (by kernel_rfl) (by kernel_rfl) (by kernel_rfl) (by kernel_rfl) (by kernel_rfl) (by kernel_rfl) (fun _ _ _ h => h) (Or.inl ⟨by rfl, ?h14⟩) (HO2.out.1.blk.cell 9) ?_
  case h14 => intro w hSw; go_simp; with_reducible rfl
  simp only [List.setIfInBounds_toArray, List.set_cons_zero, List.set_cons_succ]
  refine' take_U (i := 15) (d := 32) (v := _) rfl rfl (by kernel_rfl) (by kernel_rfl) (by kernel_rfl) (by kernel_rfl) (by kernel_rfl) (by kernel_rfl) (fun _ _ _ h => h) (Or.inl ⟨by rfl, ?h15⟩) (HO2.out.1.blk.cell 9) ?_
  case h15 => intro w hSw; go_simp; with_reducible rfl
  simp only [List.setIfInBounds_toArray, List.set_cons_zero, List.set_cons_succ]
  refine wpAnyU_ready (rs := [8]) (by kernel_rfl) (by simp) ?_
  refine AllReadyU.cons (o := _) rfl (fun K hK => ?_) AllReadyU.nil
  go_simp
  refine (HSC.out _).mono ?_
  rintro e w3 ⟨rfl, hb⟩
  have HO3 : Hid (Own11 w3 q n (.slice (none) N c) ∧ Below w.heap.size w w3) := ⟨HO2.out.1.keep (fun k hk => hb.block k (HO2.out.1.flt hk)), HO2.out.2.trans (hb.mono HO2.out.2.size)⟩
  clear hb
  simp only []
  refine hK.out _ _ (fun _ _ => HO3.out.1.blk.cell 9) ?_
  clear hK K
  refine wpAnyU_ready (rs := [9]) (by kernel_rfl) (by simp) ?_
  refine AllReadyU.cons (o := _) rfl (fun K hK => ?_) AllReadyU.nil
  go_simp
  obtain ⟨q3, hq3⟩ : ∃ z, z = w3.heap.size := ⟨_, rfl⟩
  rw [← hq3]
  have HSX : Hid (Src (w3.alloc (.cells #[.string s] 9)) (.slice (some ⟨q3, 0, none⟩) 1 1) [s]) := by rw [hq3]; exact Src.one w3 s _
  have hb := (Below.refl _ w3).alloc (Nat.le_refl _) (.cells #[.string s] 9)
  have HO4 : Hid (Own11 (w3.alloc (.cells #[.string s] 9)) q n (.slice (none) N c) ∧ Below w.heap.size w (w3.alloc (.cells #[.string s] 9))) := ⟨HO3.out.1.keep (fun k hk => hb.block k (HO3.out.1.flt hk)), HO3.out.2.trans (hb.mono HO3.out.2.size)⟩
  clear hb hq3
  generalize w3.alloc (.cells #[.string s] 9) = w4 at *
  refine hK.out _ _ (fun _ _ => HO4.out.1.blk.cell 9) ?_
  clear hK K
  refine wpAnyU_ready (rs := [16]) (by kernel_rfl) (by simp) ?_
  refine AllReadyU.cons (o := _) rfl (fun K hK => ?_) AllReadyU.nil
  go_simp
  obtain ⟨q5, hq5⟩ : ∃ z, z = w4.heap.size := ⟨_, rfl⟩
  rw [← hq5]
  have hb := (Below.refl _ w4).alloc (Nat.le_refl _) (.cells #[.slice (none) k c, .slice (some ⟨q3, 0, none⟩) 1 1, .slice none (N - k) (c - k)] 71)
  have HO5 : Hid (Own11 (w4.alloc (.cells #[.slice (none) k c, .slice (some ⟨q3, 0, none⟩) 1 1, .slice none (N - k) (c - k)] 71)) q n (.slice (none) N c) ∧ Below w.heap.size w (w4.alloc (.cells #[.slice (none) k c, .slice (some ⟨q3, 0, none⟩) 1 1, .slice none (N - k) (c - k)] 71))) := ⟨HO4.out.1.keep (fun k hk => hb.block k (HO4.out.1.flt hk)), HO4.out.2.trans (hb.mono HO4.out.2.size)⟩
  have HPC : Hid (Pcs (w4.alloc (.cells #[.slice (none) k c, .slice (some ⟨q3, 0, none⟩) 1 1, .slice none (N - k) (c - k)] 71)) (.slice (some ⟨q5, 0, none⟩) 3 3) [n.names.take k, [s], n.names.drop k]) := by
    refine ⟨q5, 0, 3, rfl, fun j l hl => ?_⟩
    have hcell : ∀ (j : Nat) u, (#[.slice (none) k c, .slice (some ⟨q3, 0, none⟩) 1 1, .slice none (N - k) (c - k)] : Array Value)[j]? = some u → (w4.alloc (.cells #[.slice (none) k c, .slice (some ⟨q3, 0, none⟩) 1 1, .slice none (N - k) (c - k)] 71)).cell? ⟨q5, 0 + j, none⟩ = some u := fun j u hu => by
      rw [hq5, Nat.zero_add]
      exact cell?_alloc_at _ _ _ _ _ _ hu
    match j, hl with
    | 0, hl =>
      obtain rfl := Option.some.inj hl
      exact ⟨_, hcell 0 _ rfl, HSR.out.1 _ HO5.out.2⟩
    | 1, hl =>
      obtain rfl := Option.some.inj hl
      exact ⟨_, hcell 1 _ rfl, HSX.out.below hb⟩
    | 2, hl =>
      obtain rfl := Option.some.inj hl
      exact ⟨_, hcell 2 _ rfl, HSR.out.2 _ HO5.out.2⟩
    | (j + 3), hl => simp at hl
  clear hb hq5
  generalize w4.alloc (.cells #[.slice (none) k c, .slice (some ⟨q3, 0, none⟩) 1 1, .slice none (N - k) (c - k)] 71) = w5 at *
  refine hK.out _ _ (fun _ _ => HO5.out.1.blk.cell 9) ?_
  clear hK K
  refine wpAnyU_ready (rs := [17]) (by kernel_rfl) (by simp) ?_
  refine AllReadyU.cons (o := _) rfl (fun K hK => ?_) AllReadyU.nil
  go_simp
  refine (hold_any11 q n (.slice (none) N c) _ [n.names.take k, [s], n.names.drop k] w5 HO5.out.1.blk HFI.out.1 HPC.out (by show 3 ≤ 1000; decide) (by rw [HFL.out]; exact HLE.out)).mono ?_
  rintro e w6 ⟨v6, rfl, hc, ho, hg⟩
  rw [HFL.out] at hc ho
  obtain ⟨a6, c6, hv6, _⟩ := row_form ho
  obtain ⟨n6, hn6⟩ : ∃ z, z = (Kq.ins n.names s).length := ⟨_, rfl⟩
  rw [← hn6] at hv6
  subst hv6
  have H6 : Hid (Cb w6 q (k10 (Kq.hold n (Kq.ins n.names s)) (.slice a6 n6 c6)) 175 ∧ w6.ownsRow w5.heap.size 9 1 (.slice a6 n6 c6) (Kq.ins n.names s).length (sc (Kq.ins n.names s)) ∧ w5.grownBy w6 (some q)) := ⟨hc, ho, hg⟩
  clear hc ho hg hn6
  simp only []
  refine hK.out _ _ (fun h => absurd (by decide) h) ?_
  clear hK K
  refine wpAnyU_done (by kernel_rfl) ?_ _
  have c8 : w6.cell? ⟨q, 8, none⟩ = some (.int .i64 n.next) := H6.out.1.cell 8
  have f8 := H6.out.1.free 8
  go_wp2_with fail
  refine (HMN.out _).mono ?_
  rintro e w7 ⟨rfl, hw⟩
  rw [hw]
  clear hw w7
  go_wp2
  go_ret
  clear c8 f8
  refine ⟨.slice a6 n6 c6, rfl, ?_, ?_⟩
  · rw [HAD.out]
    exact ⟨H6.out.1.set 8 _, (row_stays H6.out.2.1 (fun k hk => RowKit.Below.heap_setCell _ _ _ _ (fun e => H6.out.1.apart H6.out.2.1 (by decide) (by rw [hk]; exact congrArg some e)))).mono (Nat.zero_le _), HRI.out⟩
  · exact moved_hold HO5.out.2 H6.out.2.1 H6.out.2.2 (grownBy_setCell w6 ⟨q, 8, none⟩ (.int .i64 (Kq.more n.next)))
set_option maxRecDepth 20000 in
set_option maxHeartbeats 8000000 in
theorem add_some11 (q : Nat) (n : Kq.Kn) (g : Nat) (N c k : Nat) (s : ByteArray) (w : World) (h : Own11 w q n (.slice (some ⟨g, 0, none⟩) N c)) (hNc : N = n.names.length ∧ N ≤ c) (hf : Fine10 n) (hs : s.size ≤ 20000) (hh : Kq.has n.names s = false) (hk : k = (Kq.low n.names s).length) :
    Calls Tryz.prog 201 #[dptr q, .string s] w fun e w' => ∃ v', e = .returned (.bool true) ∧ Own11 w' q (Kq.add n s) v' ∧ Moved w w' (Fn q (.slice (some ⟨g, 0, none⟩) N c)) (Fn q v') := by
  have hkl := Kq.low_len n.names s
  have HOW : Hid (Own11 w q n (.slice (some ⟨g, 0, none⟩) N c)) := h
  have HFI : Hid ((-9223372036854775808 ≤ n.kids ∧ n.kids ≤ 9223372036854775807) ∧ (-9223372036854775808 ≤ n.next ∧ n.next ≤ 9223372036854775807)) := ⟨hf.kids, hf.next⟩
  have HF : Hid (Calls Tryz.prog 215 #[.slice (some ⟨g, 0, none⟩) N c, .string s] w fun e w' => e = .returned (.tuple #[.int .i64 (k : Int), .bool false]) ∧ Below w.heap.size w w') := by
    refine (search_any10 (.slice (some ⟨g, 0, none⟩) N c) n.names s w (Nm.of_row h.row) h.rises hf.many).mono ?_
    rintro e w' ⟨rfl, nq, rfl⟩
    rw [hh, ← hk]
    exact ⟨rfl, below_drewN (Below.refl _ _) _⟩
  have hmem : s ∉ n.names := fun e => by rw [Kq.has_iff.2 e] at hh; cases hh
  have HSC : Hid (∀ w, Calls Tryz.prog 97 #[.string s] w fun e w' => e = .returned (.string s) ∧ Below w.heap.size w w') := fun w => sclone_any10 s w (by omega)
  have HMN : Hid (∀ w, Calls Tryz.prog 161 #[.int .i64 n.next] w fun e w' => e = .returned (.int .i64 (Kq.more n.next)) ∧ w' = w) := fun w => oneMore_any10 n.next w hf.next
  have HFL : Hid ([n.names.take k, [s], n.names.drop k].flatten = Kq.ins n.names s) := by rw [hk]; exact Kq.ins_flat n.names s
  have HLE : Hid ((Kq.ins n.names s).length ≤ 3000) := by have e := Kq.len_ins n.names s; have e2 := hf.many; have e3 : (Kq.ins n.names s).length ≤ 3000 := (by omega); exact e3
  have HRI : Hid (Kq.Rises (Kq.ins n.names s)) := Kq.rises_ins h.rises hmem
  have HAD : Hid (Kq.add n s = { Kq.hold n (Kq.ins n.names s) with next := Kq.more n.next }) := by
    have e := Kq.add_yes hh
    rw [← Kq.len_ins n.names s] at e
    exact e
  clear hmem
  have hNm := Nm.of_row h.row
  have hcell : ∀ (j : Nat) s, n.names[j]? = some s → w.cell? ⟨g, j, none⟩ = some (.string s) := by
    rcases hNm with ⟨e, _⟩ | ⟨g', o', c', e, h1, h2⟩
    · cases e
    · simp only [Value.slice.injEq, Option.some.injEq, Addr.mk.injEq, and_true] at e
      obtain ⟨⟨rfl, rfl⟩, _, _⟩ := e
      intro j s hs
      have e := h2 j s hs
      rwa [Nat.zero_add] at e
  have HSR : Hid ((∀ w', Below w.heap.size w w' → Src w' (.slice (some ⟨g, 0, none⟩) k c) (n.names.take k)) ∧ ∀ w', Below w.heap.size w w' → Src w' (.slice (if c = k then some ⟨g, 0, none⟩ else some ⟨g, k, none⟩) (N - k) (c - k)) (n.names.drop k)) := by
    refine ⟨fun w' hb => ?_, fun w' hb => ?_⟩
    · refine Or.inr ⟨g, 0, c, by rw [List.length_take, Nat.min_eq_left (by omega)], fun j x hx => ?_⟩
      rw [List.getElem?_take] at hx
      split at hx
      · rw [Nat.zero_add]
        exact Below.kept hb (hcell j x hx)
      · cases hx
    · by_cases hcj : c = k
      · have hdr : n.names.drop k = [] := List.drop_eq_nil_iff.2 (by omega)
        rw [if_pos hcj]
        refine Or.inr ⟨g, 0, c - k, by rw [List.length_drop, ← hNc.1], fun j x hx => ?_⟩
        rw [hdr] at hx
        simp at hx
      · rw [if_neg hcj]
        refine Or.inr ⟨g, k, c - k, by rw [List.length_drop, ← hNc.1], fun j x hx => ?_⟩
        rw [List.getElem?_drop] at hx
        exact Below.kept hb (hcell _ x hx)
  clear hcell hNm
  have hLc : N ≤ c := hNc.2
  have hkN2 : k ≤ N := by rw [hk, hNc.1]; exact hkl
  have hN1 : N ≤ 1000 := by rw [hNc.1]; exact hf.many
  clear h hh hf hk hkl hNc hs
  have k0 : (0 : Int) ≤ (k : Int) := by omega
  have kN : (k : Int) ≤ (N : Int) := by omega
  have kc : (k : Int) ≤ (c : Int) := by omega
  unfold dptr
  go_enter Tryz.func201, Tryz.ntmps201
  have cc9 : w.cell? ⟨q, 9, none⟩ = some (.slice (some ⟨g, 0, none⟩) N c) := HOW.out.blk.cell 9
  go_wp2_with fail
  clear cc9
  refine HF.out.mono ?_
  rintro e w1 ⟨rfl, hb⟩
  have HO1 : Hid (Own11 w1 q n (.slice (some ⟨g, 0, none⟩) N c) ∧ Below w.heap.size w w1) := ⟨HOW.out.keep (fun k hk => hb.block k (HOW.out.flt hk)), hb⟩
  clear hb
  go_wp2_with fail
  refine wp_region_U (fun w' => w'.cell? ⟨q, 9, none⟩ = some (.slice (some ⟨g, 0, none⟩) N c)) [17] (by kernel_rfl) ?_
  have HO2 : Hid (Own11 w1.drew q n (.slice (some ⟨g, 0, none⟩) N c) ∧ Below w.heap.size w w1.drew) := ⟨HO1.out.1.keep (fun _ _ => rfl), HO1.out.2.drew⟩
  clear HO1
  generalize w1.drew = w2 at *
  refine' take_U (i := 0) (d := 17) (v := _) rfl rfl (by kernel_rfl) (by kernel_rfl) (by kernel_rfl) (by kernel_rfl) (by kernel_rfl) (by kernel_rfl) (fun _ _ _ h => h) (Or.inl ⟨by rfl, ?h0⟩) (HO2.out.1.blk.cell 9) ?_
  case h0 => intro w hSw; go_simp; with_reducible rfl
  simp only [List.setIfInBounds_toArray, List.set_cons_zero, List.set_cons_succ]
  refine' take_U (i := 1) (d := 18) (v := _) rfl rfl (by kernel_rfl) (by kernel_rfl) (by kernel_rfl) (by kernel_rfl) (by kernel_rfl) (by kernel_rfl) (fun _ _ _ h => h) (Or.inl ⟨by rfl, ?h1⟩) (HO2.out.1.blk.cell 9) ?_
  case h1 => intro w hSw; go_simp; with_reducible rfl
  simp only [List.setIfInBounds_toArray, List.set_cons_zero, List.set_cons_succ]
  refine' take_U (i := 2) (d := 19) (v := _) rfl rfl (by kernel_rfl) (by kernel_rfl) (by kernel_rfl) (by kernel_rfl) (by kernel_rfl) (by kernel_rfl) (fun _ _ _ h => h) (Or.inl ⟨by rfl, ?h2⟩) (HO2.out.1.blk.cell 9) ?_
  case h2 => intro w hSw; go_simp; with_reducible rfl
  simp only [List.setIfInBounds_toArray, List.set_cons_zero, List.set_cons_succ]
  refine' take_U (i := 3) (d := 20) (v := _) rfl rfl (by kernel_rfl) (by kernel_rfl) (by kernel_rfl) (by kernel_rfl) (by kernel_rfl) (by kernel_rfl) (fun _ _ _ h => h) (Or.inl ⟨by rfl, ?h3⟩) (HO2.out.1.blk.cell 9) ?_
  case h3 => intro w hSw; go_simp; with_reducible rfl
  simp only [List.setIfInBounds_toArray, List.set_cons_zero, List.set_cons_succ]
  refine' take_U (i := 4) (d := 21) (v := _) rfl rfl (by kernel_rfl) (by kernel_rfl) (by kernel_rfl) (by kernel_rfl) (by kernel_rfl) (by kernel_rfl) (fun _ _ _ h => h) (Or.inl ⟨by rfl, ?h4⟩) (HO2.out.1.blk.cell 9) ?_
  case h4 => intro w hSw; go_simp; with_reducible rfl
  simp only [List.setIfInBounds_toArray, List.set_cons_zero, List.set_cons_succ]
  refine' take_U (i := 5) (d := 22) (v := _) rfl rfl (by kernel_rfl) (by kernel_rfl) (by kernel_rfl) (by kernel_rfl) (by kernel_rfl) (by kernel_rfl) (fun _ _ _ h => h) (Or.inl ⟨by rfl, ?h5⟩) (HO2.out.1.blk.cell 9) ?_
  case h5 => intro w hSw; go_simp; with_reducible rfl
  simp only [List.setIfInBounds_toArray, List.set_cons_zero, List.set_cons_succ]
  refine' take_U (i := 6) (d := 23) (v := _) rfl rfl (by kernel_rfl) (by kernel_rfl) (by kernel_rfl) (by kernel_rfl) (by kernel_rfl) (by kernel_rfl) (fun _ _ _ h => h) (Or.inl ⟨by rfl, ?h6⟩) (HO2.out.1.blk.cell 9) ?_
  case h6 => intro w hSw; go_simp; with_reducible rfl
  simp only [List.setIfInBounds_toArray, List.set_cons_zero, List.set_cons_succ]
  refine' take_U (i := 7) (d := 24) (v := _) rfl rfl (by kernel_rfl) (by kernel_rfl) (by kernel_rfl) (by kernel_rfl) (by kernel_rfl) (by kernel_rfl) (fun _ _ _ h => h) (Or.inl ⟨by rfl, ?h7⟩) (HO2.out.1.blk.cell 9) ?_
  case h7 => intro w hSw; go_simp; with_reducible rfl
  simp only [List.setIfInBounds_toArray, List.set_cons_zero, List.set_cons_succ]
  refine' take_U (i := 10) (d := 27) (v := _) rfl rfl (by kernel_rfl) (by kernel_rfl) (by kernel_rfl) (by kernel_rfl) (by kernel_rfl) (by kernel_rfl) (fun _ _ _ h => h) (Or.inl ⟨by rfl, ?h10⟩) (HO2.out.1.blk.cell 9) ?_
  case h10 => intro w hSw; go_simp; with_reducible rfl
  simp only [List.setIfInBounds_toArray, List.set_cons_zero, List.set_cons_succ]
  refine' take_U (i := 11) (d := 28) (v := _) rfl rfl (by kernel_rfl) (by kernel_rfl) (by kernel_rfl) (by kernel_rfl) (by kernel_rfl) (by kernel_rfl) (fun _ _ _ h => h) (Or.inl ⟨by rfl, ?h11⟩) (HO2.out.1.blk.cell 9) ?_
  case h11 => intro w hSw; go_simp; with_reducible rfl
  simp only [List.setIfInBounds_toArray, List.set_cons_zero, List.set_cons_succ]
  refine' take_U (i := 12) (d := 29) (v := _) rfl rfl (by kernel_rfl) (by kernel_rfl) (by kernel_rfl) (by kernel_rfl) (by kernel_rfl) (by kernel_rfl) (fun _ _ _ h => h) (Or.inl ⟨by rfl, ?h12⟩) (HO2.out.1.blk.cell 9) ?_
  case h12 => intro w hSw; go_simp; with_reducible rfl
  simp only [List.setIfInBounds_toArray, List.set_cons_zero, List.set_cons_succ]
  refine' take_U (i := 13) (d := 30) (v := _) rfl rfl (by kernel_rfl) (by kernel_rfl) (by kernel_rfl) (by kernel_rfl) (by kernel_rfl) (by kernel_rfl) (fun _ _ _ h => h) (Or.inl ⟨by rfl, ?h13⟩) (HO2.out.1.blk.cell 9) ?_
  case h13 => intro w hSw; go_simp; with_reducible rfl
  simp only [List.setIfInBounds_toArray, List.set_cons_zero, List.set_cons_succ]
  refine' take_U (i := 14) (d := 31) (v := _) rfl rfl (by kernel_rfl) (by kernel_rfl) (by kernel_rfl) (by kernel_rfl) (by kernel_rfl) (by kernel_rfl) (fun _ _ _ h => h) (Or.inl ⟨by rfl, ?h14⟩) (HO2.out.1.blk.cell 9) ?_
  case h14 => intro w hSw; go_simp; with_reducible rfl
  simp only [List.setIfInBounds_toArray, List.set_cons_zero, List.set_cons_succ]
  refine' take_U (i := 15) (d := 32) (v := _) rfl rfl (by kernel_rfl) (by kernel_rfl) (by kernel_rfl) (by kernel_rfl) (by kernel_rfl) (by kernel_rfl) (fun _ _ _ h => h) (Or.inl ⟨by rfl, ?h15⟩) (HO2.out.1.blk.cell 9) ?_
  case h15 => intro w hSw; go_simp; with_reducible rfl
  simp only [List.setIfInBounds_toArray, List.set_cons_zero, List.set_cons_succ]
  refine wpAnyU_ready (rs := [8]) (by kernel_rfl) (by simp) ?_
  refine AllReadyU.cons (o := _) rfl (fun K hK => ?_) AllReadyU.nil
  go_simp
  refine (HSC.out _).mono ?_
  rintro e w3 ⟨rfl, hb⟩
  have HO3 : Hid (Own11 w3 q n (.slice (some ⟨g, 0, none⟩) N c) ∧ Below w.heap.size w w3) := ⟨HO2.out.1.keep (fun k hk => hb.block k (HO2.out.1.flt hk)), HO2.out.2.trans (hb.mono HO2.out.2.size)⟩
  clear hb
  simp only []
  refine hK.out _ _ (fun _ _ => HO3.out.1.blk.cell 9) ?_
  clear hK K
  refine wpAnyU_ready (rs := [9]) (by kernel_rfl) (by simp) ?_
  refine AllReadyU.cons (o := _) rfl (fun K hK => ?_) AllReadyU.nil
  go_simp
  obtain ⟨q3, hq3⟩ : ∃ z, z = w3.heap.size := ⟨_, rfl⟩
  rw [← hq3]
  have HSX : Hid (Src (w3.alloc (.cells #[.string s] 9)) (.slice (some ⟨q3, 0, none⟩) 1 1) [s]) := by rw [hq3]; exact Src.one w3 s _
  have hb := (Below.refl _ w3).alloc (Nat.le_refl _) (.cells #[.string s] 9)
  have HO4 : Hid (Own11 (w3.alloc (.cells #[.string s] 9)) q n (.slice (some ⟨g, 0, none⟩) N c) ∧ Below w.heap.size w (w3.alloc (.cells #[.string s] 9))) := ⟨HO3.out.1.keep (fun k hk => hb.block k (HO3.out.1.flt hk)), HO3.out.2.trans (hb.mono HO3.out.2.size)⟩
  clear hb hq3
  generalize w3.alloc (.cells #[.string s] 9) = w4 at *
  refine hK.out _ _ (fun _ _ => HO4.out.1.blk.cell 9) ?_
  clear hK K
  refine wpAnyU_ready (rs := [16]) (by kernel_rfl) (by simp) ?_
  refine AllReadyU.cons (o := _) rfl (fun K hK => ?_) AllReadyU.nil
  go_simp
  obtain ⟨q5, hq5⟩ : ∃ z, z = w4.heap.size := ⟨_, rfl⟩
  rw [← hq5]
  have hb := (Below.refl _ w4).alloc (Nat.le_refl _) (.cells #[.slice (some ⟨g, 0, none⟩) k c, .slice (some ⟨q3, 0, none⟩) 1 1, .slice (if c = k then some ⟨g, 0, none⟩ else some ⟨g, k, none⟩) (N - k) (c - k)] 71)
  have HO5 : Hid (Own11 (w4.alloc (.cells #[.slice (some ⟨g, 0, none⟩) k c, .slice (some ⟨q3, 0, none⟩) 1 1, .slice (if c = k then some ⟨g, 0, none⟩ else some ⟨g, k, none⟩) (N - k) (c - k)] 71)) q n (.slice (some ⟨g, 0, none⟩) N c) ∧ Below w.heap.size w (w4.alloc (.cells #[.slice (some ⟨g, 0, none⟩) k c, .slice (some ⟨q3, 0, none⟩) 1 1, .slice (if c = k then some ⟨g, 0, none⟩ else some ⟨g, k, none⟩) (N - k) (c - k)] 71))) := ⟨HO4.out.1.keep (fun k hk => hb.block k (HO4.out.1.flt hk)), HO4.out.2.trans (hb.mono HO4.out.2.size)⟩
  have HPC : Hid (Pcs (w4.alloc (.cells #[.slice (some ⟨g, 0, none⟩) k c, .slice (some ⟨q3, 0, none⟩) 1 1, .slice (if c = k then some ⟨g, 0, none⟩ else some ⟨g, k, none⟩) (N - k) (c - k)] 71)) (.slice (some ⟨q5, 0, none⟩) 3 3) [n.names.take k, [s], n.names.drop k]) := by
    refine ⟨q5, 0, 3, rfl, fun j l hl => ?_⟩
    have hcell : ∀ (j : Nat) u, (#[.slice (some ⟨g, 0, none⟩) k c, .slice (some ⟨q3, 0, none⟩) 1 1, .slice (if c = k then some ⟨g, 0, none⟩ else some ⟨g, k, none⟩) (N - k) (c - k)] : Array Value)[j]? = some u → (w4.alloc (.cells #[.slice (some ⟨g, 0, none⟩) k c, .slice (some ⟨q3, 0, none⟩) 1 1, .slice (if c = k then some ⟨g, 0, none⟩ else some ⟨g, k, none⟩) (N - k) (c - k)] 71)).cell? ⟨q5, 0 + j, none⟩ = some u := fun j u hu => by
      rw [hq5, Nat.zero_add]
      exact cell?_alloc_at _ _ _ _ _ _ hu
    match j, hl with
    | 0, hl =>
      obtain rfl := Option.some.inj hl
      exact ⟨_, hcell 0 _ rfl, HSR.out.1 _ HO5.out.2⟩
    | 1, hl =>
      obtain rfl := Option.some.inj hl
      exact ⟨_, hcell 1 _ rfl, HSX.out.below hb⟩
    | 2, hl =>
      obtain rfl := Option.some.inj hl
      exact ⟨_, hcell 2 _ rfl, HSR.out.2 _ HO5.out.2⟩
    | (j + 3), hl => simp at hl
  clear hb hq5
  generalize w4.alloc (.cells #[.slice (some ⟨g, 0, none⟩) k c, .slice (some ⟨q3, 0, none⟩) 1 1, .slice (if c = k then some ⟨g, 0, none⟩ else some ⟨g, k, none⟩) (N - k) (c - k)] 71) = w5 at *
  refine hK.out _ _ (fun _ _ => HO5.out.1.blk.cell 9) ?_
  clear hK K
  refine wpAnyU_ready (rs := [17]) (by kernel_rfl) (by simp) ?_
  refine AllReadyU.cons (o := _) rfl (fun K hK => ?_) AllReadyU.nil
  go_simp
  refine (hold_any11 q n (.slice (some ⟨g, 0, none⟩) N c) _ [n.names.take k, [s], n.names.drop k] w5 HO5.out.1.blk HFI.out.1 HPC.out (by show 3 ≤ 1000; decide) (by rw [HFL.out]; exact HLE.out)).mono ?_
  rintro e w6 ⟨v6, rfl, hc, ho, hg⟩
  rw [HFL.out] at hc ho
  obtain ⟨a6, c6, hv6, _⟩ := row_form ho
  obtain ⟨n6, hn6⟩ : ∃ z, z = (Kq.ins n.names s).length := ⟨_, rfl⟩
  rw [← hn6] at hv6
  subst hv6
  have H6 : Hid (Cb w6 q (k10 (Kq.hold n (Kq.ins n.names s)) (.slice a6 n6 c6)) 175 ∧ w6.ownsRow w5.heap.size 9 1 (.slice a6 n6 c6) (Kq.ins n.names s).length (sc (Kq.ins n.names s)) ∧ w5.grownBy w6 (some q)) := ⟨hc, ho, hg⟩
  clear hc ho hg hn6
  simp only []
  refine hK.out _ _ (fun h => absurd (by decide) h) ?_
  clear hK K
  refine wpAnyU_done (by kernel_rfl) ?_ _
  clear HSR
  generalize (if c = k then some (⟨g, 0, none⟩ : Addr) else some ⟨g, k, none⟩) = au
  have c8 : w6.cell? ⟨q, 8, none⟩ = some (.int .i64 n.next) := H6.out.1.cell 8
  have f8 := H6.out.1.free 8
  go_wp2_with fail
  refine (HMN.out _).mono ?_
  rintro e w7 ⟨rfl, hw⟩
  rw [hw]
  clear hw w7
  go_wp2
  go_ret
  clear c8 f8
  refine ⟨.slice a6 n6 c6, rfl, ?_, ?_⟩
  · rw [HAD.out]
    exact ⟨H6.out.1.set 8 _, (row_stays H6.out.2.1 (fun k hk => RowKit.Below.heap_setCell _ _ _ _ (fun e => H6.out.1.apart H6.out.2.1 (by decide) (by rw [hk]; exact congrArg some e)))).mono (Nat.zero_le _), HRI.out⟩
  · exact moved_hold HO5.out.2 H6.out.2.1 H6.out.2.2 (grownBy_setCell w6 ⟨q, 8, none⟩ (.int .i64 (Kq.more n.next)))
theorem add_any11 (q : Nat) (n : Kq.Kn) (v : Value) (s : ByteArray) (w : World) (h : Own11 w q n v) (hf : Fine10 n) (hs : s.size ≤ 20000) :
    Calls Tryz.prog 201 #[dptr q, .string s] w fun e w' => ∃ v', e = .returned (.bool (!Kq.has n.names s)) ∧ Own11 w' q (Kq.add n s) v' ∧ Moved w w' (Fn q v) (Fn q v') := by
  have hrow := h.row
  cases hh : Kq.has n.names s with
  | true =>
    obtain ⟨a, c, rfl, _⟩ := row_form hrow
    refine (add_no11 q n a _ c _ s w h hf hh rfl).mono ?_
    rintro e w' ⟨rfl, h1, h2⟩
    rw [Kq.add_no hh]
    exact ⟨_, rfl, h1, Moved.of_below _ h2⟩
  | false =>
    rcases hrow.2 with ⟨rfl, h0⟩ | ⟨g, cap, cur, rfl, _, _, hcap, _⟩
    · exact add_none11 q n 0 0 _ s w h ⟨h0.symm, Nat.le_refl _, rfl, rfl⟩ hf hs hh rfl
    · exact add_some11 q n g _ cap _ s w h ⟨rfl, hcap⟩ hf hs hh rfl
set_option maxRecDepth 20000 in
set_option maxHeartbeats 2000000 in
theorem remove_no11 (q : Nat) (n : Kq.Kn) (a : Option Addr) (N c k : Nat) (s : ByteArray) (w : World) (h : Own11 w q n (.slice a N c)) (hf : Fine10 n) (hh : Kq.has n.names s = false) (hk : k = (Kq.low n.names s).length) :
    Calls Tryz.prog 170 #[dptr q, .string s] w fun e w' => e = .returned (.bool false) ∧ Own11 w' q n (.slice a N c) ∧ Below w.heap.size w w' := by
  have HOW : Hid (Own11 w q n (.slice a N c)) := h
  have HF : Hid (Calls Tryz.prog 215 #[.slice a N c, .string s] w fun e w' => e = .returned (.tuple #[.int .i64 (k : Int), .bool false]) ∧ Below w.heap.size w w') := by
    refine (search_any10 (.slice a N c) n.names s w (Nm.of_row h.row) h.rises hf.many).mono ?_
    rintro e w' ⟨rfl, nq, rfl⟩
    rw [hh, ← hk]
    exact ⟨rfl, below_drewN (Below.refl _ _) _⟩
  have cc9 : w.cell? ⟨q, 9, none⟩ = some (.slice a N c) := h.blk.cell 9
  clear h hf hh hk
  unfold dptr
  go_enter Tryz.func170, Tryz.ntmps170
  go_wp2_with fail
  clear cc9
  refine HF.out.mono ?_
  rintro e w1 ⟨rfl, hb⟩
  have HO1 : Hid (Own11 w1 q n (.slice a N c) ∧ Below w.heap.size w w1) := ⟨HOW.out.keep (fun k hk => hb.block k (HOW.out.flt hk)), hb⟩
  clear hb
  go_wp2
  go_ret
  exact ⟨rfl, HO1.out.1, HO1.out.2⟩
set_option maxRecDepth 20000 in
set_option maxHeartbeats 8000000 in
theorem remove_some11 (q : Nat) (n : Kq.Kn) (g : Nat) (N c k : Nat) (s : ByteArray) (w : World) (h : Own11 w q n (.slice (some ⟨g, 0, none⟩) N c)) (hNc : N = n.names.length ∧ N ≤ c) (hf : Fine10 n) (hh : Kq.has n.names s = true) (hk : k = (Kq.low n.names s).length) :
    Calls Tryz.prog 170 #[dptr q, .string s] w fun e w' => ∃ v', e = .returned (.bool true) ∧ Own11 w' q (Kq.remove n s) v' ∧ Moved w w' (Fn q (.slice (some ⟨g, 0, none⟩) N c)) (Fn q v') := by
  have hkl := Kq.low_len n.names s
  have HOW : Hid (Own11 w q n (.slice (some ⟨g, 0, none⟩) N c)) := h
  have HFI : Hid ((-9223372036854775808 ≤ n.kids ∧ n.kids ≤ 9223372036854775807) ∧ (-9223372036854775808 ≤ n.next ∧ n.next ≤ 9223372036854775807)) := ⟨hf.kids, hf.next⟩
  have HF : Hid (Calls Tryz.prog 215 #[.slice (some ⟨g, 0, none⟩) N c, .string s] w fun e w' => e = .returned (.tuple #[.int .i64 (k : Int), .bool true]) ∧ Below w.heap.size w w') := by
    refine (search_any10 (.slice (some ⟨g, 0, none⟩) N c) n.names s w (Nm.of_row h.row) h.rises hf.many).mono ?_
    rintro e w' ⟨rfl, nq, rfl⟩
    rw [hh, ← hk]
    exact ⟨rfl, below_drewN (Below.refl _ _) _⟩
  have hmem := Kq.has_iff.1 hh
  have hcut := Kq.del_cut h.rises hmem
  have HFL : Hid ([n.names.take k, n.names.drop (k + 1)].flatten = Kq.del n.names s) := by
    have e : [n.names.take k, n.names.drop (k + 1)].flatten = Kq.del n.names s := by
      rw [hcut.1, ← hk]
      simp
    exact e
  have HLE : Hid ((Kq.del n.names s).length ≤ 3000) := by have e := Kq.len_del h.rises hmem; have e2 := hf.many; have e3 : (Kq.del n.names s).length ≤ 3000 := (by omega); exact e3
  have HRI : Hid (Kq.Rises (Kq.del n.names s)) := Kq.rises_del s h.rises
  have HAD : Hid (Kq.remove n s = Kq.hold n (Kq.del n.names s)) := by
    have e := Kq.remove_yes hh
    rw [← (Kq.len_del h.rises hmem).1] at e
    exact e
  have hk1 : k < N := by rw [hk, hNc.1]; exact hcut.2
  clear hmem hcut
  have hNm := Nm.of_row h.row
  have hcell : ∀ (j : Nat) s, n.names[j]? = some s → w.cell? ⟨g, j, none⟩ = some (.string s) := by
    rcases hNm with ⟨e, _⟩ | ⟨g', o', c', e, h1, h2⟩
    · cases e
    · simp only [Value.slice.injEq, Option.some.injEq, Addr.mk.injEq, and_true] at e
      obtain ⟨⟨rfl, rfl⟩, _, _⟩ := e
      intro j s hs
      have e := h2 j s hs
      rwa [Nat.zero_add] at e
  have HSR : Hid ((∀ w', Below w.heap.size w w' → Src w' (.slice (some ⟨g, 0, none⟩) k c) (n.names.take k)) ∧ ∀ w', Below w.heap.size w w' → Src w' (.slice (if c = k + 1 then some ⟨g, 0, none⟩ else some ⟨g, k + 1, none⟩) (N - (k + 1)) (c - (k + 1))) (n.names.drop (k + 1))) := by
    refine ⟨fun w' hb => ?_, fun w' hb => ?_⟩
    · refine Or.inr ⟨g, 0, c, by rw [List.length_take, Nat.min_eq_left (by omega)], fun j x hx => ?_⟩
      rw [List.getElem?_take] at hx
      split at hx
      · rw [Nat.zero_add]
        exact Below.kept hb (hcell j x hx)
      · cases hx
    · by_cases hcj : c = k + 1
      · have hdr : n.names.drop (k + 1) = [] := List.drop_eq_nil_iff.2 (by omega)
        rw [if_pos hcj]
        refine Or.inr ⟨g, 0, c - (k + 1), by rw [List.length_drop, ← hNc.1], fun j x hx => ?_⟩
        rw [hdr] at hx
        simp at hx
      · rw [if_neg hcj]
        refine Or.inr ⟨g, k + 1, c - (k + 1), by rw [List.length_drop, ← hNc.1], fun j x hx => ?_⟩
        rw [List.getElem?_drop] at hx
        exact Below.kept hb (hcell _ x hx)
  clear hcell hNm
  have hLc : N ≤ c := hNc.2
  have hkN2 : k ≤ N := by rw [hk, hNc.1]; exact hkl
  have hN1 : N ≤ 1000 := by rw [hNc.1]; exact hf.many
  clear h hh hf hk hkl hNc
  have k0 : (0 : Int) ≤ (k : Int) := by omega
  have kN : (k : Int) ≤ (N : Int) := by omega
  have kc : (k : Int) ≤ (c : Int) := by omega
  have k10' : (0 : Int) ≤ (k : Int) + 1 := by omega
  have k1N : (k : Int) + 1 ≤ (N : Int) := by omega
  have k1c : (k : Int) + 1 ≤ (c : Int) := by omega
  have hw1 : IntKind.wrap .i64 ((k : Int) + 1) = (k : Int) + 1 := by rw [IntKind.wrap_i64]; omega
  unfold dptr
  go_enter Tryz.func170, Tryz.ntmps170
  have cc9 : w.cell? ⟨q, 9, none⟩ = some (.slice (some ⟨g, 0, none⟩) N c) := HOW.out.blk.cell 9
  go_wp2_with fail
  clear cc9
  refine HF.out.mono ?_
  rintro e w1 ⟨rfl, hb⟩
  have HO1 : Hid (Own11 w1 q n (.slice (some ⟨g, 0, none⟩) N c) ∧ Below w.heap.size w w1) := ⟨HOW.out.keep (fun k hk => hb.block k (HOW.out.flt hk)), hb⟩
  clear hb
  go_wp2_with fail
  refine wp_region_U (fun w' => w'.cell? ⟨q, 9, none⟩ = some (.slice (some ⟨g, 0, none⟩) N c)) [15] (by kernel_rfl) ?_
  have HO2 : Hid (Own11 w1.drew q n (.slice (some ⟨g, 0, none⟩) N c) ∧ Below w.heap.size w w1.drew) := ⟨HO1.out.1.keep (fun _ _ => rfl), HO1.out.2.drew⟩
  clear HO1
  generalize w1.drew = w2 at *
  refine' take_U (i := 0) (d := 18) (v := _) rfl rfl (by kernel_rfl) (by kernel_rfl) (by kernel_rfl) (by kernel_rfl) (by kernel_rfl) (by kernel_rfl) (fun _ _ _ h => h) (Or.inl ⟨by rfl, ?h0⟩) (HO2.out.1.blk.cell 9) ?_
  case h0 => intro w hSw; go_simp; with_reducible rfl
  simp only [List.setIfInBounds_toArray, List.set_cons_zero, List.set_cons_succ]
  refine' take_U (i := 1) (d := 19) (v := _) rfl rfl (by kernel_rfl) (by kernel_rfl) (by kernel_rfl) (by kernel_rfl) (by kernel_rfl) (by kernel_rfl) (fun _ _ _ h => h) (Or.inl ⟨by rfl, ?h1⟩) (HO2.out.1.blk.cell 9) ?_
  case h1 => intro w hSw; go_simp; with_reducible rfl
  simp only [List.setIfInBounds_toArray, List.set_cons_zero, List.set_cons_succ]
  refine' take_U (i := 2) (d := 20) (v := _) rfl rfl (by kernel_rfl) (by kernel_rfl) (by kernel_rfl) (by kernel_rfl) (by kernel_rfl) (by kernel_rfl) (fun _ _ _ h => h) (Or.inl ⟨by rfl, ?h2⟩) (HO2.out.1.blk.cell 9) ?_
  case h2 => intro w hSw; go_simp; with_reducible rfl
  simp only [List.setIfInBounds_toArray, List.set_cons_zero, List.set_cons_succ]
  refine' take_U (i := 3) (d := 21) (v := _) rfl rfl (by kernel_rfl) (by kernel_rfl) (by kernel_rfl) (by kernel_rfl) (by kernel_rfl) (by kernel_rfl) (fun _ _ _ h => h) (Or.inl ⟨by rfl, ?h3⟩) (HO2.out.1.blk.cell 9) ?_
  case h3 => intro w hSw; go_simp; with_reducible rfl
  simp only [List.setIfInBounds_toArray, List.set_cons_zero, List.set_cons_succ]
  refine' take_U (i := 4) (d := 22) (v := _) rfl rfl (by kernel_rfl) (by kernel_rfl) (by kernel_rfl) (by kernel_rfl) (by kernel_rfl) (by kernel_rfl) (fun _ _ _ h => h) (Or.inl ⟨by rfl, ?h4⟩) (HO2.out.1.blk.cell 9) ?_
  case h4 => intro w hSw; go_simp; with_reducible rfl
  simp only [List.setIfInBounds_toArray, List.set_cons_zero, List.set_cons_succ]
  refine' take_U (i := 5) (d := 23) (v := _) rfl rfl (by kernel_rfl) (by kernel_rfl) (by kernel_rfl) (by kernel_rfl) (by kernel_rfl) (by kernel_rfl) (fun _ _ _ h => h) (Or.inl ⟨by rfl, ?h5⟩) (HO2.out.1.blk.cell 9) ?_
  case h5 => intro w hSw; go_simp; with_reducible rfl
  simp only [List.setIfInBounds_toArray, List.set_cons_zero, List.set_cons_succ]
  refine' take_U (i := 6) (d := 24) (v := _) rfl rfl (by kernel_rfl) (by kernel_rfl) (by kernel_rfl) (by kernel_rfl) (by kernel_rfl) (by kernel_rfl) (fun _ _ _ h => h) (Or.inl ⟨by rfl, ?h6⟩) (HO2.out.1.blk.cell 9) ?_
  case h6 => intro w hSw; go_simp; with_reducible rfl
  simp only [List.setIfInBounds_toArray, List.set_cons_zero, List.set_cons_succ]
  refine' take_U (i := 7) (d := 25) (v := _) rfl rfl (by kernel_rfl) (by kernel_rfl) (by kernel_rfl) (by kernel_rfl) (by kernel_rfl) (by kernel_rfl) (fun _ _ _ h => h) (Or.inl ⟨by rfl, ?h7⟩) (HO2.out.1.blk.cell 9) ?_
  case h7 => intro w hSw; go_simp; with_reducible rfl
  simp only [List.setIfInBounds_toArray, List.set_cons_zero, List.set_cons_succ]
  refine' take_U (i := 8) (d := 26) (v := _) rfl rfl (by kernel_rfl) (by kernel_rfl) (by kernel_rfl) (by kernel_rfl) (by kernel_rfl) (by kernel_rfl) (fun _ _ _ h => h) (Or.inl ⟨by rfl, ?h8⟩) (HO2.out.1.blk.cell 9) ?_
  case h8 => intro w hSw; go_simp; with_reducible rfl
  simp only [List.setIfInBounds_toArray, List.set_cons_zero, List.set_cons_succ]
  refine' take_U (i := 9) (d := 27) (v := _) rfl rfl (by kernel_rfl) (by kernel_rfl) (by kernel_rfl) (by kernel_rfl) (by kernel_rfl) (by kernel_rfl) (fun _ _ _ h => h) (Or.inl ⟨by rfl, ?h9⟩) (HO2.out.1.blk.cell 9) ?_
  case h9 => intro w hSw; go_simp; with_reducible rfl
  simp only [List.setIfInBounds_toArray, List.set_cons_zero, List.set_cons_succ]
  refine' take_U (i := 10) (d := 28) (v := _) rfl rfl (by kernel_rfl) (by kernel_rfl) (by kernel_rfl) (by kernel_rfl) (by kernel_rfl) (by kernel_rfl) (fun _ _ _ h => h) (Or.inl ⟨by rfl, ?h10⟩) (HO2.out.1.blk.cell 9) ?_
  case h10 => intro w hSw; go_simp; with_reducible rfl
  simp only [List.setIfInBounds_toArray, List.set_cons_zero, List.set_cons_succ]
  refine' take_U (i := 11) (d := 29) (v := _) rfl rfl (by kernel_rfl) (by kernel_rfl) (by kernel_rfl) (by kernel_rfl) (by kernel_rfl) (by kernel_rfl) (fun _ _ _ h => h) (Or.inl ⟨by rfl, ?h11⟩) (HO2.out.1.blk.cell 9) ?_
  case h11 => intro w hSw; go_simp; with_reducible rfl
  simp only [List.setIfInBounds_toArray, List.set_cons_zero, List.set_cons_succ]
  refine' take_U (i := 12) (d := 30) (v := _) rfl rfl (by kernel_rfl) (by kernel_rfl) (by kernel_rfl) (by kernel_rfl) (by kernel_rfl) (by kernel_rfl) (fun _ _ _ h => h) (Or.inl ⟨by rfl, ?h12⟩) (HO2.out.1.blk.cell 9) ?_
  case h12 => intro w hSw; go_simp; with_reducible rfl
  simp only [List.setIfInBounds_toArray, List.set_cons_zero, List.set_cons_succ]
  refine' take_U (i := 13) (d := 31) (v := _) rfl rfl (by kernel_rfl) (by kernel_rfl) (by kernel_rfl) (by kernel_rfl) (by kernel_rfl) (by kernel_rfl) (fun _ _ _ h => h) (Or.inl ⟨by rfl, ?h13⟩) (HO2.out.1.blk.cell 9) ?_
  case h13 => intro w hSw; go_simp; with_reducible rfl
  simp only [List.setIfInBounds_toArray, List.set_cons_zero, List.set_cons_succ]
  refine wpAnyU_ready (rs := [14]) (by kernel_rfl) (by simp) ?_
  refine AllReadyU.cons (o := _) rfl (fun K hK => ?_) AllReadyU.nil
  go_simp
  obtain ⟨q5, hq5⟩ : ∃ z, z = w2.heap.size := ⟨_, rfl⟩
  rw [← hq5]
  have hb := (Below.refl _ w2).alloc (Nat.le_refl _) (.cells #[.slice (some ⟨g, 0, none⟩) k c, .slice (if c = k + 1 then some ⟨g, 0, none⟩ else some ⟨g, k + 1, none⟩) (N - (k + 1)) (c - (k + 1))] 71)
  have HO5 : Hid (Own11 (w2.alloc (.cells #[.slice (some ⟨g, 0, none⟩) k c, .slice (if c = k + 1 then some ⟨g, 0, none⟩ else some ⟨g, k + 1, none⟩) (N - (k + 1)) (c - (k + 1))] 71)) q n (.slice (some ⟨g, 0, none⟩) N c) ∧ Below w.heap.size w (w2.alloc (.cells #[.slice (some ⟨g, 0, none⟩) k c, .slice (if c = k + 1 then some ⟨g, 0, none⟩ else some ⟨g, k + 1, none⟩) (N - (k + 1)) (c - (k + 1))] 71))) := ⟨HO2.out.1.keep (fun k hk => hb.block k (HO2.out.1.flt hk)), HO2.out.2.trans (hb.mono HO2.out.2.size)⟩
  have HPC : Hid (Pcs (w2.alloc (.cells #[.slice (some ⟨g, 0, none⟩) k c, .slice (if c = k + 1 then some ⟨g, 0, none⟩ else some ⟨g, k + 1, none⟩) (N - (k + 1)) (c - (k + 1))] 71)) (.slice (some ⟨q5, 0, none⟩) 2 2) [n.names.take k, n.names.drop (k + 1)]) := by
    refine ⟨q5, 0, 2, rfl, fun j l hl => ?_⟩
    have hcell : ∀ (j : Nat) u, (#[.slice (some ⟨g, 0, none⟩) k c, .slice (if c = k + 1 then some ⟨g, 0, none⟩ else some ⟨g, k + 1, none⟩) (N - (k + 1)) (c - (k + 1))] : Array Value)[j]? = some u → (w2.alloc (.cells #[.slice (some ⟨g, 0, none⟩) k c, .slice (if c = k + 1 then some ⟨g, 0, none⟩ else some ⟨g, k + 1, none⟩) (N - (k + 1)) (c - (k + 1))] 71)).cell? ⟨q5, 0 + j, none⟩ = some u := fun j u hu => by
      rw [hq5, Nat.zero_add]
      exact cell?_alloc_at _ _ _ _ _ _ hu
    match j, hl with
    | 0, hl =>
      obtain rfl := Option.some.inj hl
      exact ⟨_, hcell 0 _ rfl, HSR.out.1 _ HO5.out.2⟩
    | 1, hl =>
      obtain rfl := Option.some.inj hl
      exact ⟨_, hcell 1 _ rfl, HSR.out.2 _ HO5.out.2⟩
    | (j + 2), hl => simp at hl
  clear hb hq5
  generalize w2.alloc (.cells #[.slice (some ⟨g, 0, none⟩) k c, .slice (if c = k + 1 then some ⟨g, 0, none⟩ else some ⟨g, k + 1, none⟩) (N - (k + 1)) (c - (k + 1))] 71) = w5 at *
  refine hK.out _ _ (fun _ _ => HO5.out.1.blk.cell 9) ?_
  clear hK K
  refine wpAnyU_ready (rs := [15]) (by kernel_rfl) (by simp) ?_
  refine AllReadyU.cons (o := _) rfl (fun K hK => ?_) AllReadyU.nil
  go_simp
  refine (hold_any11 q n (.slice (some ⟨g, 0, none⟩) N c) _ [n.names.take k, n.names.drop (k + 1)] w5 HO5.out.1.blk HFI.out.1 HPC.out (by show 2 ≤ 1000; decide) (by rw [HFL.out]; exact HLE.out)).mono ?_
  rintro e w6 ⟨v6, rfl, hc, ho, hg⟩
  rw [HFL.out] at hc ho
  obtain ⟨a6, c6, hv6, _⟩ := row_form ho
  obtain ⟨n6, hn6⟩ : ∃ z, z = (Kq.del n.names s).length := ⟨_, rfl⟩
  rw [← hn6] at hv6
  subst hv6
  have H6 : Hid (Cb w6 q (k10 (Kq.hold n (Kq.del n.names s)) (.slice a6 n6 c6)) 175 ∧ w6.ownsRow w5.heap.size 9 1 (.slice a6 n6 c6) (Kq.del n.names s).length (sc (Kq.del n.names s)) ∧ w5.grownBy w6 (some q)) := ⟨hc, ho, hg⟩
  clear hc ho hg hn6
  simp only []
  refine hK.out _ _ (fun h => absurd (by decide) h) ?_
  clear hK K
  refine wpAnyU_done (by kernel_rfl) ?_ _
  clear HSR
  generalize (if c = k + 1 then some (⟨g, 0, none⟩ : Addr) else some ⟨g, k + 1, none⟩) = au
  go_wp2
  go_ret
  refine ⟨.slice a6 n6 c6, rfl, ?_, ?_⟩
  · rw [HAD.out]
    exact ⟨H6.out.1, H6.out.2.1.mono (Nat.zero_le _), HRI.out⟩
  · exact moved_hold HO5.out.2 H6.out.2.1 H6.out.2.2 ⟨rfl, rfl, rfl, Nat.le_refl _, fun _ _ _ => rfl⟩
theorem remove_any11 (q : Nat) (n : Kq.Kn) (v : Value) (s : ByteArray) (w : World) (h : Own11 w q n v) (hf : Fine10 n)  :
    Calls Tryz.prog 170 #[dptr q, .string s] w fun e w' => ∃ v', e = .returned (.bool (Kq.has n.names s)) ∧ Own11 w' q (Kq.remove n s) v' ∧ Moved w w' (Fn q v) (Fn q v') := by
  have hrow := h.row
  cases hh : Kq.has n.names s with
  | false =>
    obtain ⟨a, c, rfl, _⟩ := row_form hrow
    refine (remove_no11 q n a _ c _ s w h hf hh rfl).mono ?_
    rintro e w' ⟨rfl, h1, h2⟩
    rw [Kq.remove_no hh]
    exact ⟨_, rfl, h1, Moved.of_below _ h2⟩
  | true =>
    rcases hrow.2 with ⟨rfl, h0⟩ | ⟨g, cap, cur, rfl, _, _, hcap, _⟩
    · rw [List.length_eq_zero_iff.1 h0] at hh
      cases hh
    · exact remove_some11 q n g _ cap _ s w h ⟨rfl, hcap⟩ hf hh rfl
end Go.Proofs.YtboejbjobjhajaaGreatDoor
namespace Go.Proofs.YtboejbjobjhajaaGreatDoor
open Go.RowKit
section
variable {w : World} {q m : Nat} {t : Tq.Tr} {G : Nat → Prop} {D : DataW Nat} {P : ByteArray → Nat} {V : ByteArray → Value}

set_option maxRecDepth 20000 in
set_option maxHeartbeats 2000000 in
theorem drop_no11 (p : ByteArray) (h : TkU w q t G m D P V) (hp : p.size ≤ maxLen) (hn : Tq.find t.l p = none) :
    Calls Tryz.prog 141 #[dptr q, .string p] w fun e w' => e = .returned (.bool false) ∧ Below w.heap.size w w' := by
  have HD : Hid (TkU w q t G m D P V) := h
  have HK : Hid (keyOf Tryz.prog 9 (.string p) = some (fkey p)) := key_of hp
  have HN : Hid (Maps.has D (fkey p) = false) := h.nowhere hn
  have c0 : w.cell? ⟨q, 0, none⟩ = some (.map (some m)) := h.blk.cell 0
  clear h hp hn
  go_enter Tryz.func141, Tryz.ntmps141
  go_wp2_with (at_lookup; refine wpList_lookup_own_ok _ rfl _ _ 111 rfl 9 151 keyed11 Tryz.underlying111 fElem (zeroPtr11 _) .nil [] rfl m t.l.length D rfl HD.out.own (.string p) (fkey p) rfl HK.out ?_)
  intro v ps hv
  rw [Maps.atKey_of_not_has HN.out] at hv
  obtain rfl := fElem_nil hv
  rw [HN.out]
  clear hv
  go_wp2
  go_ret
  exact ⟨rfl, Below.refl _ _⟩

set_option maxRecDepth 20000 in
set_option maxHeartbeats 4000000 in
theorem drop_yes11 (p : ByteArray) (n : Kq.Kn) (h : TkU w q t G m D P V) (hf : Fine11 t) (h6 : ∀ k, G k → 6 ≤ k) (hS : Pa.Std w) (hg : Pl.goodB p.data.toList = true) (hn : Tq.find t.l p = some n) :
    Calls Tryz.prog 141 #[dptr q, .string p] w fun e w' => e = .returned (.bool true) ∧ ∃ G', LTk w' q { t with l := Tq.orphan (Tq.del t.l p) p } G' ∧ Moved w w' G G' := by
  have HD : Hid (TkU w q t G m D P V ∧ Pa.Std w) := ⟨h, hS⟩
  have HK : Hid (keyOf Tryz.prog 9 (.string p) = some (fkey p)) := key_of (good_max hg)
  have HT : Hid (Maps.has D (fkey p) = true ∧ ∀ z, D.atKey (fkey p) z = .held (P p)) := h.there hn
  have HN : Hid (Tq.find t.l p = some n ∧ Fine11 t ∧ Pl.goodB p.data.toList = true ∧ ∀ k, G k → 6 ≤ k) := ⟨hn, hf, hg, h6⟩
  obtain ⟨l1, hl1⟩ : ∃ l1, l1 = Tq.del t.l p := ⟨_, rfl⟩
  obtain ⟨l2, hl2⟩ : ∃ l2, l2 = Tq.orphan (Tq.del t.l p) p := ⟨_, rfl⟩
  have HAB : Hid (l2 = match Tq.abv l1 p with | none => l1 | some um => Tq.set l1 um.1 (Kq.remove um.2 (Tq.nm p))) := by
    have e : l2 = match Tq.abv l1 p with | none => l1 | some um => Tq.set l1 um.1 (Kq.remove um.2 (Tq.nm p)) := by rw [hl2, hl1]; exact Tq.gone_abv
    exact e
  have HF1 : Hid (Fine11 { t with l := l1 }) := by
    have e : Fine11 { t with l := l1 } := by rw [hl1]; exact Tq.fine_del hf
    exact e
  have HL1 : Hid (l1 = Tq.del t.l p) := hl1
  rw [← hl2]
  have c0 : w.cell? ⟨q, 0, none⟩ = some (.map (some m)) := h.blk.cell 0
  clear h hS hf h6 hg hn hl1 hl2
  go_enter Tryz.func141, Tryz.ntmps141
  go_wp2_with (at_lookup; refine wpList_lookup_own_ok _ rfl _ _ 111 rfl 9 151 keyed11 Tryz.underlying111 fElem (zeroPtr11 _) .nil [] rfl m t.l.length D rfl HD.out.1.own (.string p) (fkey p) rfl HK.out ?_)
  intro v ps hv
  rw [HT.out.2] at hv
  obtain rfl := fElem_held hv
  rw [HT.out.1]
  clear hv
  obtain ⟨w2, hrun, hown, hturn⟩ := HD.out.1.own.drop keyed11 Tryz.underlying111 HK.out 0
  have H2 : Hid (TkU w2 q { t with l := l1 } G m (D.del (fkey p)) P V ∧ Pa.Std w2 ∧ Moved w w2 G G) := by
    have key := HD.out.1.gone HN.out.2.1.rise (Tq.find_some HN.out.1) hown hturn
    rw [HL1.out]
    exact ⟨key.1, HD.out.2.moved key.2 HN.out.2.2.2, key.2⟩
  clear hown hturn
  go_wp2_with fail
  clear hrun c0
  refine (above_any11 p H2.out.1 H2.out.2.1 HN.out.2.2.1).mono ?_
  rintro e w3 ⟨hb, hy, hn⟩
  have H3 : Hid (TkU w3 q { t with l := l1 } G m (D.del (fkey p)) P V ∧ Pa.Std w3 ∧ Moved w w3 G G) := ⟨H2.out.1.below hb, H2.out.2.1.below hb, H2.out.2.2.trans (Moved.of_below G hb)⟩
  clear hb H2
  cases ha : Tq.abv l1 p with
  | none =>
    obtain rfl := hn ha
    have HE : Hid (l2 = l1) := by
      have e : l2 = l1 := by rw [HAB.out, ha]
      exact e
    clear ha hy hn
    go_wp2
    go_ret
    exact ⟨rfl, G, by rw [HE.out]; exact ⟨_, _, _, _, H3.out.1⟩, H3.out.2.2⟩
  | some um =>
    obtain ⟨pb, hpb⟩ : ∃ pb, pb = P um.1 := ⟨_, rfl⟩
    have he : e = .returned (.tuple #[dptr pb, .bool true]) := by rw [hpb]; exact hy um ha
    subst he
    have HU : Hid (l2 = Tq.set l1 um.1 (Kq.remove um.2 (Tq.nm p)) ∧ Tq.find l1 um.1 = some um.2 ∧ pb = P um.1 ∧ Node11 um.2) := ⟨by rw [HAB.out, ha], (Tq.abv_some ha).2, hpb, (HF1.out.nodes _ (Tq.find_some (Tq.abv_some ha).2)).2⟩
    clear ha hy hn hpb
    go_wp2_with fail
    refine wp_region_held_drew (S := fun _ => True) (by kernel_rfl) trivial (fun _ => ?_)
    have H4 : Hid (TkU w3.drew q { t with l := l1 } G m (D.del (fkey p)) P V ∧ Pa.Std w3.drew ∧ Moved w w3.drew G G) := ⟨H3.out.1.below (Below.refl _ _).drew, H3.out.2.1.below (Below.refl _ _).drew, H3.out.2.2.trans (Moved.of_below G (Below.refl _ _).drew)⟩
    clear H3
    generalize w3.drew = w4 at *
    refine' take_at (i := 0) (d := 32) (v := _) rfl rfl (by kernel_rfl) (by kernel_rfl) (by kernel_rfl) (fun _ _ _ h => h) (Or.inl ⟨by rfl, ?h0⟩) (trivial) ?_
    case h0 =>
      intro w hSw
      go_simp
      with_reducible rfl
    simp only [List.setIfInBounds_toArray, List.set_cons_zero, List.set_cons_succ]
    refine' take_at (i := 1) (d := 33) (v := _) rfl rfl (by kernel_rfl) (by kernel_rfl) (by kernel_rfl) (fun _ _ _ h => h) (Or.inl ⟨by rfl, ?h1⟩) (trivial) ?_
    case h1 =>
      intro w hSw
      go_simp
      with_reducible rfl
    simp only [List.setIfInBounds_toArray, List.set_cons_zero, List.set_cons_succ]
    refine' take_at (i := 2) (d := 34) (v := _) rfl rfl (by kernel_rfl) (by kernel_rfl) (by kernel_rfl) (fun _ _ _ h => h) (Or.inl ⟨by rfl, ?h2⟩) (trivial) ?_
    case h2 =>
      intro w hSw
      go_simp
      with_reducible rfl
    simp only [List.setIfInBounds_toArray, List.set_cons_zero, List.set_cons_succ]
    refine' take_at (i := 3) (d := 35) (v := _) rfl rfl (by kernel_rfl) (by kernel_rfl) (by kernel_rfl) (fun _ _ _ h => h) (Or.inl ⟨by rfl, ?h3⟩) (trivial) ?_
    case h3 =>
      intro w hSw
      go_simp
      with_reducible rfl
    simp only [List.setIfInBounds_toArray, List.set_cons_zero, List.set_cons_succ]
    refine wpAnyH_ready (rs := [4]) (by kernel_rfl) (by simp) ?_
    refine AllReadyH.cons (o := _) rfl (fun KQ hKQ => ?_) AllReadyH.nil
    go_simp
    refine (name_nm p w4 H4.out.2.1 HN.out.2.2.1).mono ?_
    rintro e w5 ⟨rfl, hb⟩
    have H5 : Hid (TkU w5 q { t with l := l1 } G m (D.del (fkey p)) P V ∧ Moved w w5 G G) := ⟨H4.out.1.below hb, H4.out.2.2.trans (Moved.of_below G hb)⟩
    clear hb H4
    simp only []
    refine hKQ.out _ _ trivial (fun _ => ?_)
    clear hKQ KQ
    refine wpAnyH_ready (rs := [5]) (by kernel_rfl) (by simp) ?_
    refine AllReadyH.cons (o := _) rfl (fun KQ hKQ => ?_) AllReadyH.nil
    go_simp
    refine (remove_any11 pb um.2 (V um.1) (Tq.nm p) w5 (by rw [HU.out.2.2.1]; exact H5.out.1.node _ (Tq.find_some HU.out.2.1)) (fine11_10 HU.out.2.2.2)).mono ?_
    rintro e w6 ⟨v6, rfl, hO, hmv⟩
    have H6 : Hid (∃ G', LTk w6 q { t with l := l2 } G' ∧ Moved w w6 G G') := by
      rw [HU.out.2.2.1] at hO hmv
      have key := H5.out.1.change (Tq.find_some HU.out.2.1) hO hmv
      exact ⟨_, by rw [HU.out.1]; exact ⟨_, _, _, _, key.1⟩, H5.out.2.trans key.2⟩
    clear hO hmv H5
    simp only []
    refine hKQ.out _ _ trivial (fun _ => ?_)
    clear hKQ KQ
    refine wpAnyH_done (by kernel_rfl) ?_ _
    go_wp2
    go_ret
    exact ⟨rfl, H6.out⟩
end
end Go.Proofs.YtboejbjobjhajaaGreatDoor
namespace Go.Proofs.YtboejbjobjhajaaGreatDoor
open Go.RowKit
structure Fc11 (W w : World) (b r : Nat) (o : O) (x : X) (v : Value) : Prop where
  op : Cb w b (oc o) 30
  res : Cb w r (xc x v) 75
  hb : W.heap.size ≤ b
  hr : W.heap.size ≤ r
  below : Below W.heap.size W w
theorem Fc11.later {W w w' : World} {b r : Nat} {o : O} {x : X} {v : Value} (h : Fc11 W w b r o x v) (hb : Below w.heap.size w w') : Fc11 W w' b r o x v := ⟨h.op.below hb, h.res.below hb, h.hb, h.hr, h.below.trans (hb.mono h.below.size)⟩
theorem Fc11.made (w : World) (o : O) (x : X) (v : Value) : Fc11 w (((w.alloc (.cells #[.int .i64 o.kind, .string o.path, .string o.data, .int .i64 o.ver, .int .i64 o.flags] 30))).alloc (.cells (xc x v).toArray 75)) w.heap.size (w.heap.size + 1) o x v := by
  have h1 := (Below.refl _ w).alloc (Nat.le_refl _) (.cells #[.int .i64 o.kind, .string o.path, .string o.data, .int .i64 o.ver, .int .i64 o.flags] 30)
  have h2 := (Below.refl _ (w.alloc (.cells #[.int .i64 o.kind, .string o.path, .string o.data, .int .i64 o.ver, .int .i64 o.flags] 30))).alloc (Nat.le_refl _) (.cells (xc x v).toArray 75)
  have h3 := Cb.made (w.alloc (.cells #[.int .i64 o.kind, .string o.path, .string o.data, .int .i64 o.ver, .int .i64 o.flags] 30)) (xc x v) 75
  rw [World.size_alloc] at h3
  exact ⟨(Cb.made w (oc o) _).below h2, h3, Nat.le_refl _, by omega, h1.trans (h2.mono h1.size)⟩

structure Gc11 (W w : World) (G G' : Nat → Prop) (b r : Nat) (o : O) (x : X) (v : Value) : Prop where
  op : Cb w b (oc o) 30
  res : Cb w r (xc x v) 75
  hb : W.heap.size ≤ b
  hr : W.heap.size ≤ r
  mv : Moved W w G G'
  std : Pa.Std w
  apart : ∀ k, G' k → G k ∨ (W.heap.size ≤ k ∧ k ≠ b ∧ k ≠ r)
theorem Gc11.later {W w w' : World} {G G' : Nat → Prop} {b r : Nat} {o : O} {x : X} {v : Value} (h : Gc11 W w G G' b r o x v) (hb : Below w.heap.size w w') : Gc11 W w' G G' b r o x v := ⟨h.op.below hb, h.res.below hb, h.hb, h.hr, h.mv.trans (Moved.of_below G' hb), h.std.below hb, h.apart⟩

section
variable {w : World} {q m : Nat} {t : Tq.Tr} {G : Nat → Prop} {D : DataW Nat} {P : ByteArray → Nat} {V : ByteArray → Value}

set_option maxRecDepth 20000 in
set_option maxHeartbeats 4000000 in
theorem change_none11 (o : O) (z : Int) (x : X) (ra : Option Addr) (rk rc : Nat) (h : TkU w q t G m D P V) (hS : Pa.Std w) (hk : 4 ≤ o.kind) :
    Calls Tryz.prog 162 #[dptr q, ov o, .int .i64 z, rv x (.slice ra rk rc)] w fun e w' => e = .returned (.tuple #[]) ∧ TkU w' q t G m D P V ∧ Moved w w' G G := by
  have k1 : (o.kind == 1) = false := by simp; omega
  have k2 : (o.kind == 2) = false := by simp; omega
  have k3 : (o.kind == 3) = false := by simp; omega
  clear hk
  have HFR : Hid (Fc11 w ((w.alloc (.cells #[.int .i64 o.kind, .string o.path, .string o.data, .int .i64 o.ver, .int .i64 o.flags] 30)).alloc (.cells #[.int .i64 x.err, .string x.path, .string x.data, .slice ra rk rc, .int .i64 x.made, .int .i64 x.changed, .int .i64 x.ver, .int .i64 x.kids, .int .i64 x.owner, .int .i64 x.len, .int .i64 x.cnt] 75)) w.heap.size (w.heap.size + 1) o x (.slice ra rk rc)) := Fc11.made w o x _
  have HD : Hid (TkU ((w.alloc (.cells #[.int .i64 o.kind, .string o.path, .string o.data, .int .i64 o.ver, .int .i64 o.flags] 30)).alloc (.cells #[.int .i64 x.err, .string x.path, .string x.data, .slice ra rk rc, .int .i64 x.made, .int .i64 x.changed, .int .i64 x.ver, .int .i64 x.kids, .int .i64 x.owner, .int .i64 x.len, .int .i64 x.cnt] 75)) q t G m D P V ∧ Pa.Std ((w.alloc (.cells #[.int .i64 o.kind, .string o.path, .string o.data, .int .i64 o.ver, .int .i64 o.flags] 30)).alloc (.cells #[.int .i64 x.err, .string x.path, .string x.data, .slice ra rk rc, .int .i64 x.made, .int .i64 x.changed, .int .i64 x.ver, .int .i64 x.kids, .int .i64 x.owner, .int .i64 x.len, .int .i64 x.cnt] 75))) := ⟨h.below HFR.out.below, hS.below HFR.out.below⟩
  obtain ⟨b, hbw⟩ : ∃ b, b = w.heap.size := ⟨_, rfl⟩
  obtain ⟨r, hrw⟩ : ∃ r, r = w.heap.size + 1 := ⟨_, rfl⟩
  rw [← hrw, ← hbw] at HFR
  have HHW : Hid (∀ k, G k → k < w.heap.size) := h.glt
  have HSZ : Hid (6 ≤ w.heap.size) := hS.size
  clear h hS
  unfold ov rv
  go_enter Tryz.func162, Tryz.ntmps162
  go_upto_region 1 with fail
  rw [← hrw, ← hbw]
  clear hrw hbw
  generalize ((w.alloc (.cells #[.int .i64 o.kind, .string o.path, .string o.data, .int .i64 o.ver, .int .i64 o.flags] 30)).alloc (.cells #[.int .i64 x.err, .string x.path, .string x.data, .slice ra rk rc, .int .i64 x.made, .int .i64 x.changed, .int .i64 x.ver, .int .i64 x.kids, .int .i64 x.owner, .int .i64 x.len, .int .i64 x.cnt] 75)) = w0 at *
  have o0 : w0.cell? ⟨b, 0, none⟩ = some (.int .i64 o.kind) := HFR.out.op.cell 0
  go_wp2
  go_end0
  exact ⟨rfl, HD.out.1, Moved.of_below G HFR.out.below⟩

set_option maxRecDepth 20000 in
set_option maxHeartbeats 4000000 in
theorem change_set11 (o : O) (z : Int) (x : X) (n : Kq.Kn) (ra : Option Addr) (rk rc : Nat) (h : TkU w q t G m D P V) (hf : Fine11 t) (hS : Pa.Std w) (hk : o.kind = 3) (hd : o.data.size ≤ 1000) (hg : Pl.goodB x.path.data.toList = true) (hn : Tq.find t.l x.path = some n) :
    Calls Tryz.prog 162 #[dptr q, ov o, .int .i64 z, rv x (.slice ra rk rc)] w fun e w' => e = .returned (.tuple #[]) ∧ ∃ G', LTk w' q { t with l := Tq.set t.l x.path (Kq.write n z o.data) } G' ∧ Moved w w' G G' := by
  have k1 : (o.kind == 1) = false := by simp [hk]
  have k2 : (o.kind == 2) = false := by simp [hk]
  have k3 : (o.kind == 3) = true := by simp [hk]
  obtain ⟨pb, hpb⟩ : ∃ pb, pb = P x.path := ⟨_, rfl⟩
  have HN : Hid (Tq.find t.l x.path = some n ∧ pb = P x.path ∧ x.path.size ≤ maxLen ∧ o.data.size ≤ 1000 ∧ Node11 n) := ⟨hn, hpb, good_max hg, hd, Tq.find_node hf hn⟩
  clear hk hn hpb hg hd hf
  have HFR : Hid (Fc11 w ((w.alloc (.cells #[.int .i64 o.kind, .string o.path, .string o.data, .int .i64 o.ver, .int .i64 o.flags] 30)).alloc (.cells #[.int .i64 x.err, .string x.path, .string x.data, .slice ra rk rc, .int .i64 x.made, .int .i64 x.changed, .int .i64 x.ver, .int .i64 x.kids, .int .i64 x.owner, .int .i64 x.len, .int .i64 x.cnt] 75)) w.heap.size (w.heap.size + 1) o x (.slice ra rk rc)) := Fc11.made w o x _
  have HD : Hid (TkU ((w.alloc (.cells #[.int .i64 o.kind, .string o.path, .string o.data, .int .i64 o.ver, .int .i64 o.flags] 30)).alloc (.cells #[.int .i64 x.err, .string x.path, .string x.data, .slice ra rk rc, .int .i64 x.made, .int .i64 x.changed, .int .i64 x.ver, .int .i64 x.kids, .int .i64 x.owner, .int .i64 x.len, .int .i64 x.cnt] 75)) q t G m D P V ∧ Pa.Std ((w.alloc (.cells #[.int .i64 o.kind, .string o.path, .string o.data, .int .i64 o.ver, .int .i64 o.flags] 30)).alloc (.cells #[.int .i64 x.err, .string x.path, .string x.data, .slice ra rk rc, .int .i64 x.made, .int .i64 x.changed, .int .i64 x.ver, .int .i64 x.kids, .int .i64 x.owner, .int .i64 x.len, .int .i64 x.cnt] 75))) := ⟨h.below HFR.out.below, hS.below HFR.out.below⟩
  obtain ⟨b, hbw⟩ : ∃ b, b = w.heap.size := ⟨_, rfl⟩
  obtain ⟨r, hrw⟩ : ∃ r, r = w.heap.size + 1 := ⟨_, rfl⟩
  rw [← hrw, ← hbw] at HFR
  have HHW : Hid (∀ k, G k → k < w.heap.size) := h.glt
  have HSZ : Hid (6 ≤ w.heap.size) := hS.size
  clear h hS
  unfold ov rv
  go_enter Tryz.func162, Tryz.ntmps162
  go_upto_region 1 with fail
  rw [← hrw, ← hbw]
  clear hrw hbw
  generalize ((w.alloc (.cells #[.int .i64 o.kind, .string o.path, .string o.data, .int .i64 o.ver, .int .i64 o.flags] 30)).alloc (.cells #[.int .i64 x.err, .string x.path, .string x.data, .slice ra rk rc, .int .i64 x.made, .int .i64 x.changed, .int .i64 x.ver, .int .i64 x.kids, .int .i64 x.owner, .int .i64 x.len, .int .i64 x.cnt] 75)) = w0 at *
  have o0 : w0.cell? ⟨b, 0, none⟩ = some (.int .i64 o.kind) := HFR.out.op.cell 0
  go_wp2_with fail
  refine wp_region_held_drew (S := fun w' => Cb w' q [.map (some m), .int .i64 t.room] 113 ∧ Cb w' b (oc o) 30 ∧ Cb w' r (xc x (.slice ra rk rc)) 75) (by kernel_rfl) ⟨HD.out.1.blk, HFR.out.op, HFR.out.res⟩ (fun _ => ?_)
  have H1 : Hid (TkU w0.drew q t G m D P V ∧ Fc11 w w0.drew b r o x (.slice ra rk rc)) := ⟨HD.out.1.below (Below.refl _ _).drew, HFR.out.later (Below.refl _ _).drew⟩
  clear o0 HD HFR
  generalize w0.drew = w1 at *
  have HLK : Hid ((Instr.lookup 111 (.map (some m)) (.string x.path) false).run Tryz.prog w1 = .ok (dptr pb) w1) := by
    have e := H1.out.1.look_one HN.out.2.2.1 HN.out.1
    rw [← HN.out.2.1] at e
    exact e
  refine' take_at (i := 0) (d := 52) (v := _) rfl rfl (by kernel_rfl) (by kernel_rfl) (by kernel_rfl) (fun _ _ _ h => h) (Or.inl ⟨by rfl, ?h0⟩) (⟨H1.out.1.blk, H1.out.2.op, H1.out.2.res⟩) ?_
  case h0 =>
    intro w hSw
    have cq : w.cell? ⟨q, 0, none⟩ = some (.map (some m)) := hSw.1.cell 0
    have cp : w.cell? ⟨r, 1, none⟩ = some (.string x.path) := hSw.2.2.cell 1
    have cd : w.cell? ⟨b, 2, none⟩ = some (.string o.data) := hSw.2.1.cell 2
    go_simp
    with_reducible rfl
  simp only [List.setIfInBounds_toArray, List.set_cons_zero, List.set_cons_succ]
  refine' take_at (i := 1) (d := 53) (v := _) rfl rfl (by kernel_rfl) (by kernel_rfl) (by kernel_rfl) (fun _ _ _ h => h) (Or.inl ⟨by rfl, ?h1⟩) (⟨H1.out.1.blk, H1.out.2.op, H1.out.2.res⟩) ?_
  case h1 =>
    intro w hSw
    have cq : w.cell? ⟨q, 0, none⟩ = some (.map (some m)) := hSw.1.cell 0
    have cp : w.cell? ⟨r, 1, none⟩ = some (.string x.path) := hSw.2.2.cell 1
    have cd : w.cell? ⟨b, 2, none⟩ = some (.string o.data) := hSw.2.1.cell 2
    go_simp
    with_reducible rfl
  simp only [List.setIfInBounds_toArray, List.set_cons_zero, List.set_cons_succ]
  refine' take_at (i := 2) (d := 54) (v := _) rfl rfl (by kernel_rfl) (by kernel_rfl) (by kernel_rfl) (fun _ _ _ h => h) (Or.inl ⟨by rfl, ?h2⟩) (⟨H1.out.1.blk, H1.out.2.op, H1.out.2.res⟩) ?_
  case h2 =>
    intro w hSw
    have cq : w.cell? ⟨q, 0, none⟩ = some (.map (some m)) := hSw.1.cell 0
    have cp : w.cell? ⟨r, 1, none⟩ = some (.string x.path) := hSw.2.2.cell 1
    have cd : w.cell? ⟨b, 2, none⟩ = some (.string o.data) := hSw.2.1.cell 2
    go_simp
    with_reducible rfl
  simp only [List.setIfInBounds_toArray, List.set_cons_zero, List.set_cons_succ]
  refine' take_at (i := 3) (d := 55) (v := _) rfl rfl (by kernel_rfl) (by kernel_rfl) (by kernel_rfl) (fun _ _ _ h => h) (Or.inl ⟨by rfl, ?h3⟩) (⟨H1.out.1.blk, H1.out.2.op, H1.out.2.res⟩) ?_
  case h3 =>
    intro w hSw
    have cq : w.cell? ⟨q, 0, none⟩ = some (.map (some m)) := hSw.1.cell 0
    have cp : w.cell? ⟨r, 1, none⟩ = some (.string x.path) := hSw.2.2.cell 1
    have cd : w.cell? ⟨b, 2, none⟩ = some (.string o.data) := hSw.2.1.cell 2
    go_simp
    with_reducible rfl
  simp only [List.setIfInBounds_toArray, List.set_cons_zero, List.set_cons_succ]
  refine' take_at (i := 4) (d := 56) (v := _) rfl rfl (by kernel_rfl) (by kernel_rfl) (by kernel_rfl) (fun _ _ _ h => h) (Or.inl ⟨by rfl, ?h4⟩) (⟨H1.out.1.blk, H1.out.2.op, H1.out.2.res⟩) ?_
  case h4 =>
    intro w hSw
    have cq : w.cell? ⟨q, 0, none⟩ = some (.map (some m)) := hSw.1.cell 0
    have cp : w.cell? ⟨r, 1, none⟩ = some (.string x.path) := hSw.2.2.cell 1
    have cd : w.cell? ⟨b, 2, none⟩ = some (.string o.data) := hSw.2.1.cell 2
    go_simp
    with_reducible rfl
  simp only [List.setIfInBounds_toArray, List.set_cons_zero, List.set_cons_succ]
  refine' take_at (i := 5) (d := 57) (v := _) rfl rfl (by kernel_rfl) (by kernel_rfl) (by kernel_rfl) (fun _ _ _ h => h) (Or.inl ⟨by rfl, ?h5⟩) (⟨H1.out.1.blk, H1.out.2.op, H1.out.2.res⟩) ?_
  case h5 =>
    intro w hSw
    have cq : w.cell? ⟨q, 0, none⟩ = some (.map (some m)) := hSw.1.cell 0
    have cp : w.cell? ⟨r, 1, none⟩ = some (.string x.path) := hSw.2.2.cell 1
    have cd : w.cell? ⟨b, 2, none⟩ = some (.string o.data) := hSw.2.1.cell 2
    go_simp
    with_reducible rfl
  simp only [List.setIfInBounds_toArray, List.set_cons_zero, List.set_cons_succ]
  refine' take_at (i := 9) (d := 61) (v := _) rfl rfl (by kernel_rfl) (by kernel_rfl) (by kernel_rfl) (fun _ _ _ h => h) (Or.inl ⟨by rfl, ?h9⟩) (⟨H1.out.1.blk, H1.out.2.op, H1.out.2.res⟩) ?_
  case h9 =>
    intro w hSw
    have cq : w.cell? ⟨q, 0, none⟩ = some (.map (some m)) := hSw.1.cell 0
    have cp : w.cell? ⟨r, 1, none⟩ = some (.string x.path) := hSw.2.2.cell 1
    have cd : w.cell? ⟨b, 2, none⟩ = some (.string o.data) := hSw.2.1.cell 2
    go_simp
    with_reducible rfl
  simp only [List.setIfInBounds_toArray, List.set_cons_zero, List.set_cons_succ]
  refine' take_at (i := 10) (d := 62) (v := _) rfl rfl (by kernel_rfl) (by kernel_rfl) (by kernel_rfl) (fun _ _ _ h => h) (Or.inl ⟨by rfl, ?h10⟩) (⟨H1.out.1.blk, H1.out.2.op, H1.out.2.res⟩) ?_
  case h10 =>
    intro w hSw
    have cq : w.cell? ⟨q, 0, none⟩ = some (.map (some m)) := hSw.1.cell 0
    have cp : w.cell? ⟨r, 1, none⟩ = some (.string x.path) := hSw.2.2.cell 1
    have cd : w.cell? ⟨b, 2, none⟩ = some (.string o.data) := hSw.2.1.cell 2
    go_simp
    with_reducible rfl
  simp only [List.setIfInBounds_toArray, List.set_cons_zero, List.set_cons_succ]
  refine' take_at (i := 11) (d := 63) (v := _) rfl rfl (by kernel_rfl) (by kernel_rfl) (by kernel_rfl) (fun _ _ _ h => h) (Or.inl ⟨by rfl, ?h11⟩) (⟨H1.out.1.blk, H1.out.2.op, H1.out.2.res⟩) ?_
  case h11 =>
    intro w hSw
    have cq : w.cell? ⟨q, 0, none⟩ = some (.map (some m)) := hSw.1.cell 0
    have cp : w.cell? ⟨r, 1, none⟩ = some (.string x.path) := hSw.2.2.cell 1
    have cd : w.cell? ⟨b, 2, none⟩ = some (.string o.data) := hSw.2.1.cell 2
    go_simp
    with_reducible rfl
  simp only [List.setIfInBounds_toArray, List.set_cons_zero, List.set_cons_succ]
  refine wpAnyH_ready (rs := [6]) (by kernel_rfl) (by simp) ?_
  refine AllReadyH.cons (o := _) rfl (fun KQ hKQ => ?_) AllReadyH.nil
  have hlk := HLK.out
  go_simp
  clear hlk
  refine hKQ.out _ _ ⟨H1.out.1.blk, H1.out.2.op, H1.out.2.res⟩ (fun _ => ?_)
  clear hKQ KQ
  refine' take_at (i := 7) (d := 59) (v := _) rfl rfl (by kernel_rfl) (by kernel_rfl) (by kernel_rfl) (fun _ _ _ h => h) (Or.inl ⟨by rfl, ?h7⟩) (⟨H1.out.1.blk, H1.out.2.op, H1.out.2.res⟩) ?_
  case h7 =>
    intro w hSw
    go_simp
    with_reducible rfl
  simp only [List.setIfInBounds_toArray, List.set_cons_zero, List.set_cons_succ]
  refine' take_at (i := 8) (d := 60) (v := _) rfl rfl (by kernel_rfl) (by kernel_rfl) (by kernel_rfl) (fun _ _ _ h => h) (Or.inl ⟨by rfl, ?h8⟩) (⟨H1.out.1.blk, H1.out.2.op, H1.out.2.res⟩) ?_
  case h8 =>
    intro w hSw
    go_simp
    with_reducible rfl
  simp only [List.setIfInBounds_toArray, List.set_cons_zero, List.set_cons_succ]
  refine wpAnyH_ready (rs := [12]) (by kernel_rfl) (by simp) ?_
  refine AllReadyH.cons (o := _) rfl (fun KQ hKQ => ?_) AllReadyH.nil
  go_simp
  refine (write_any11 pb n (V x.path) z o.data w1 (by rw [HN.out.2.1]; exact (H1.out.1.node _ (Tq.find_some HN.out.1)).blk) (fine11_10 HN.out.2.2.2.2) (by have := HN.out.2.2.2.1; omega)).mono ?_
  rintro e w2 ⟨rfl, hcb, hgr⟩
  have HO := H1.out.1.node _ (Tq.find_some HN.out.1)
  simp only [] at HO
  have H2 : Hid ((∃ G', LTk w2 q { t with l := Tq.set t.l x.path (Kq.write n z o.data) } G' ∧ Moved w w2 G G') ∧ Cb w2 q [.map (some m), .int .i64 t.room] 113 ∧ Cb w2 b (oc o) 30 ∧ Cb w2 r (xc x (.slice ra rk rc)) 75) := by
    rw [HN.out.2.1] at hcb hgr
    have hmv : Moved w1 w2 (Fn (P x.path) (V x.path)) (Fn (P x.path) (V x.path)) := ⟨hgr.os, hgr.tape, hgr.output, hgr.size, fun k hk hF => hgr.block k hk (fun e => hF (Or.inl (Option.some.inj e))), fun _ hk => Or.inl hk⟩
    have hO2 : Own11 w2 (P x.path) (Kq.write n z o.data) (V x.path) := ⟨hcb, row_stays HO.row (fun k e => hgr.block k (HO.row.lt k e).2 (fun e2 => HO.vne (by rw [e, e2]))), HO.rises⟩
    have key := H1.out.1.change (Tq.find_some HN.out.1) hO2 hmv
    have hlt : P x.path < w.heap.size := HHW.out _ (H1.out.1.gf _ (Tq.find_some HN.out.1)).1
    have hb := H1.out.2.hb
    have hr := H1.out.2.hr
    refine ⟨⟨_, ⟨m, D, P, _, key.1⟩, (Moved.of_below G H1.out.2.below).trans key.2⟩, key.1.blk, H1.out.2.op.keep (hgr.block b H1.out.2.op.lt (by simp; omega)), H1.out.2.res.keep (hgr.block r H1.out.2.res.lt (by simp; omega))⟩
  clear hcb hgr HO
  simp only []
  refine hKQ.out _ _ H2.out.2 (fun _ => ?_)
  clear hKQ KQ
  refine wpAnyH_done (by kernel_rfl) ?_ _
  go_wp2
  go_end0
  exact ⟨rfl, H2.out.1⟩

set_option maxRecDepth 20000 in
set_option maxHeartbeats 4000000 in
theorem change_gone11 (o : O) (z : Int) (x : X) (n : Kq.Kn) (ra : Option Addr) (rk rc : Nat) (h : TkU w q t G m D P V) (hf : Fine11 t) (h6 : ∀ k, G k → 6 ≤ k) (hS : Pa.Std w) (hk : o.kind = 2) (hg : Pl.goodB x.path.data.toList = true) (hn : Tq.find t.l x.path = some n) :
    Calls Tryz.prog 162 #[dptr q, ov o, .int .i64 z, rv x (.slice ra rk rc)] w fun e w' => e = .returned (.tuple #[]) ∧ ∃ G', LTk w' q { t with l := Tq.orphan (Tq.del t.l x.path) x.path } G' ∧ Moved w w' G G' := by
  have k1 : (o.kind == 1) = false := by simp [hk]
  have k2 : (o.kind == 2) = true := by simp [hk]
  have HN : Hid (Tq.find t.l x.path = some n ∧ Fine11 t ∧ Pl.goodB x.path.data.toList = true ∧ ∀ k, G k → 6 ≤ k) := ⟨hn, hf, hg, h6⟩
  clear hk hn hg hf h6
  have HFR : Hid (Fc11 w ((w.alloc (.cells #[.int .i64 o.kind, .string o.path, .string o.data, .int .i64 o.ver, .int .i64 o.flags] 30)).alloc (.cells #[.int .i64 x.err, .string x.path, .string x.data, .slice ra rk rc, .int .i64 x.made, .int .i64 x.changed, .int .i64 x.ver, .int .i64 x.kids, .int .i64 x.owner, .int .i64 x.len, .int .i64 x.cnt] 75)) w.heap.size (w.heap.size + 1) o x (.slice ra rk rc)) := Fc11.made w o x _
  have HD : Hid (TkU ((w.alloc (.cells #[.int .i64 o.kind, .string o.path, .string o.data, .int .i64 o.ver, .int .i64 o.flags] 30)).alloc (.cells #[.int .i64 x.err, .string x.path, .string x.data, .slice ra rk rc, .int .i64 x.made, .int .i64 x.changed, .int .i64 x.ver, .int .i64 x.kids, .int .i64 x.owner, .int .i64 x.len, .int .i64 x.cnt] 75)) q t G m D P V ∧ Pa.Std ((w.alloc (.cells #[.int .i64 o.kind, .string o.path, .string o.data, .int .i64 o.ver, .int .i64 o.flags] 30)).alloc (.cells #[.int .i64 x.err, .string x.path, .string x.data, .slice ra rk rc, .int .i64 x.made, .int .i64 x.changed, .int .i64 x.ver, .int .i64 x.kids, .int .i64 x.owner, .int .i64 x.len, .int .i64 x.cnt] 75))) := ⟨h.below HFR.out.below, hS.below HFR.out.below⟩
  obtain ⟨b, hbw⟩ : ∃ b, b = w.heap.size := ⟨_, rfl⟩
  obtain ⟨r, hrw⟩ : ∃ r, r = w.heap.size + 1 := ⟨_, rfl⟩
  rw [← hrw, ← hbw] at HFR
  have HHW : Hid (∀ k, G k → k < w.heap.size) := h.glt
  have HSZ : Hid (6 ≤ w.heap.size) := hS.size
  clear h hS
  unfold ov rv
  go_enter Tryz.func162, Tryz.ntmps162
  go_upto_region 1 with fail
  rw [← hrw, ← hbw]
  clear hrw hbw
  generalize ((w.alloc (.cells #[.int .i64 o.kind, .string o.path, .string o.data, .int .i64 o.ver, .int .i64 o.flags] 30)).alloc (.cells #[.int .i64 x.err, .string x.path, .string x.data, .slice ra rk rc, .int .i64 x.made, .int .i64 x.changed, .int .i64 x.ver, .int .i64 x.kids, .int .i64 x.owner, .int .i64 x.len, .int .i64 x.cnt] 75)) = w0 at *
  have o0 : w0.cell? ⟨b, 0, none⟩ = some (.int .i64 o.kind) := HFR.out.op.cell 0
  have p1 : w0.cell? ⟨r, 1, none⟩ = some (.string x.path) := HFR.out.res.cell 1
  go_wp2_with fail
  refine (drop_yes11 x.path n HD.out.1 HN.out.2.1 HN.out.2.2.2 HD.out.2 HN.out.2.2.1 HN.out.1).mono ?_
  rintro e w1 ⟨rfl, G', hL, hmv⟩
  have H1 : Hid (LTk w1 q { t with l := Tq.orphan (Tq.del t.l x.path) x.path } G' ∧ Moved w w1 G G') := ⟨hL, (Moved.of_below G HFR.out.below).trans hmv⟩
  clear hL hmv p1 o0
  go_wp2
  go_end0
  exact ⟨rfl, G', H1.out⟩

set_option maxRecDepth 20000 in
set_option maxHeartbeats 4000000 in
theorem change_make11 (o : O) (z : Int) (x : X) (ra : Option Addr) (rk rc : Nat) (h : TkU w q t G m D P V) (hf : Fine11 t) (h6 : ∀ k, G k → 6 ≤ k) (hS : Pa.Std w) (hk : o.kind = 1) (hd : o.data.size ≤ 1000) (hg : Pl.goodB x.path.data.toList = true) (hn : Tq.find t.l x.path = none) (hr : (t.l.length : Int) < t.room) :
    Calls Tryz.prog 162 #[dptr q, ov o, .int .i64 z, rv x (.slice ra rk rc)] w fun e w' => e = .returned (.tuple #[]) ∧ ∃ G', LTk w' q { t with l := Tq.ins (Tq.named t.l (Tq.up x.path) x.path) x.path (Kq.new z x.owner o.data) } G' ∧ Moved w w' G G' := by
  have k1 : (o.kind == 1) = true := by simp [hk]
  have HN : Hid (Tq.find t.l x.path = none ∧ x.path.size ≤ maxLen ∧ Fine11 t ∧ (∀ k, G k → 6 ≤ k) ∧ o.data.size ≤ 1000) := ⟨hn, good_max hg, hf, h6, hd⟩
  have HGP : Hid (Pl.goodB x.path.data.toList = true) := hg
  obtain ⟨l1, hl1⟩ : ∃ l1, l1 = Tq.ins t.l x.path (Kq.new z x.owner o.data) := ⟨_, rfl⟩
  obtain ⟨l2, hl2⟩ : ∃ l2, l2 = Tq.ins (Tq.named t.l (Tq.up x.path) x.path) x.path (Kq.new z x.owner o.data) := ⟨_, rfl⟩
  have HAB : Hid (l2 = match Tq.abv l1 x.path with | none => l1 | some um => Tq.set l1 um.1 (Kq.add um.2 (Tq.nm x.path))) := by
    have e : l2 = match Tq.abv l1 x.path with | none => l1 | some um => Tq.set l1 um.1 (Kq.add um.2 (Tq.nm x.path)) := by rw [hl2, hl1]; exact Tq.made_abv hf hg hn
    exact e
  have HF1 : Hid (Fine11 { t with l := l1 }) := by
    have e : Fine11 { t with l := l1 } := by rw [hl1]; exact Tq.fine_ins hf hg hn hr (Tq.n11_new (by omega))
    exact e
  have HL1 : Hid (l1 = Tq.ins t.l x.path (Kq.new z x.owner o.data)) := hl1
  rw [← hl2]
  clear hk hn hg hf h6 hl1 hl2 hd hr
  have HFR : Hid (Fc11 w ((w.alloc (.cells #[.int .i64 o.kind, .string o.path, .string o.data, .int .i64 o.ver, .int .i64 o.flags] 30)).alloc (.cells #[.int .i64 x.err, .string x.path, .string x.data, .slice ra rk rc, .int .i64 x.made, .int .i64 x.changed, .int .i64 x.ver, .int .i64 x.kids, .int .i64 x.owner, .int .i64 x.len, .int .i64 x.cnt] 75)) w.heap.size (w.heap.size + 1) o x (.slice ra rk rc)) := Fc11.made w o x _
  have HD : Hid (TkU ((w.alloc (.cells #[.int .i64 o.kind, .string o.path, .string o.data, .int .i64 o.ver, .int .i64 o.flags] 30)).alloc (.cells #[.int .i64 x.err, .string x.path, .string x.data, .slice ra rk rc, .int .i64 x.made, .int .i64 x.changed, .int .i64 x.ver, .int .i64 x.kids, .int .i64 x.owner, .int .i64 x.len, .int .i64 x.cnt] 75)) q t G m D P V ∧ Pa.Std ((w.alloc (.cells #[.int .i64 o.kind, .string o.path, .string o.data, .int .i64 o.ver, .int .i64 o.flags] 30)).alloc (.cells #[.int .i64 x.err, .string x.path, .string x.data, .slice ra rk rc, .int .i64 x.made, .int .i64 x.changed, .int .i64 x.ver, .int .i64 x.kids, .int .i64 x.owner, .int .i64 x.len, .int .i64 x.cnt] 75))) := ⟨h.below HFR.out.below, hS.below HFR.out.below⟩
  obtain ⟨b, hbw⟩ : ∃ b, b = w.heap.size := ⟨_, rfl⟩
  obtain ⟨r, hrw⟩ : ∃ r, r = w.heap.size + 1 := ⟨_, rfl⟩
  rw [← hrw, ← hbw] at HFR
  have HHW : Hid (∀ k, G k → k < w.heap.size) := h.glt
  have HSZ : Hid (6 ≤ w.heap.size) := hS.size
  clear h hS
  unfold ov rv
  go_enter Tryz.func162, Tryz.ntmps162
  go_upto_region 1 with fail
  rw [← hrw, ← hbw]
  clear hrw hbw
  generalize ((w.alloc (.cells #[.int .i64 o.kind, .string o.path, .string o.data, .int .i64 o.ver, .int .i64 o.flags] 30)).alloc (.cells #[.int .i64 x.err, .string x.path, .string x.data, .slice ra rk rc, .int .i64 x.made, .int .i64 x.changed, .int .i64 x.ver, .int .i64 x.kids, .int .i64 x.owner, .int .i64 x.len, .int .i64 x.cnt] 75)) = w0 at *
  have o0 : w0.cell? ⟨b, 0, none⟩ = some (.int .i64 o.kind) := HFR.out.op.cell 0
  go_wp2_with fail
  refine wp_region_held_drew (S := fun w' => Cb w' q [.map (some m), .int .i64 t.room] 113 ∧ Cb w' b (oc o) 30 ∧ Cb w' r (xc x (.slice ra rk rc)) 75) (by kernel_rfl) ⟨HD.out.1.blk, HFR.out.op, HFR.out.res⟩ (fun _ => ?_)
  have H1 : Hid (TkU w0.drew q t G m D P V ∧ Fc11 w w0.drew b r o x (.slice ra rk rc) ∧ Pa.Std w0.drew) := ⟨HD.out.1.below (Below.refl _ _).drew, HFR.out.later (Below.refl _ _).drew, HD.out.2.below (Below.refl _ _).drew⟩
  clear o0 HD HFR
  generalize w0.drew = w1 at *
  refine' take_at (i := 0) (d := 14) (v := _) rfl rfl (by kernel_rfl) (by kernel_rfl) (by kernel_rfl) (fun _ _ _ h => h) (Or.inl ⟨by rfl, ?h0⟩) (⟨H1.out.1.blk, H1.out.2.1.op, H1.out.2.1.res⟩) ?_
  case h0 =>
    intro w hSw
    have cq : w.cell? ⟨q, 0, none⟩ = some (.map (some m)) := hSw.1.cell 0
    have cp : w.cell? ⟨r, 1, none⟩ = some (.string x.path) := hSw.2.2.cell 1
    have co : w.cell? ⟨r, 8, none⟩ = some (.int .i64 x.owner) := hSw.2.2.cell 8
    have cd : w.cell? ⟨b, 2, none⟩ = some (.string o.data) := hSw.2.1.cell 2
    go_simp
    with_reducible rfl
  simp only [List.setIfInBounds_toArray, List.set_cons_zero, List.set_cons_succ]
  refine' take_at (i := 1) (d := 15) (v := _) rfl rfl (by kernel_rfl) (by kernel_rfl) (by kernel_rfl) (fun _ _ _ h => h) (Or.inl ⟨by rfl, ?h1⟩) (⟨H1.out.1.blk, H1.out.2.1.op, H1.out.2.1.res⟩) ?_
  case h1 =>
    intro w hSw
    have cq : w.cell? ⟨q, 0, none⟩ = some (.map (some m)) := hSw.1.cell 0
    have cp : w.cell? ⟨r, 1, none⟩ = some (.string x.path) := hSw.2.2.cell 1
    have co : w.cell? ⟨r, 8, none⟩ = some (.int .i64 x.owner) := hSw.2.2.cell 8
    have cd : w.cell? ⟨b, 2, none⟩ = some (.string o.data) := hSw.2.1.cell 2
    go_simp
    with_reducible rfl
  simp only [List.setIfInBounds_toArray, List.set_cons_zero, List.set_cons_succ]
  refine' take_at (i := 2) (d := 16) (v := _) rfl rfl (by kernel_rfl) (by kernel_rfl) (by kernel_rfl) (fun _ _ _ h => h) (Or.inl ⟨by rfl, ?h2⟩) (⟨H1.out.1.blk, H1.out.2.1.op, H1.out.2.1.res⟩) ?_
  case h2 =>
    intro w hSw
    have cq : w.cell? ⟨q, 0, none⟩ = some (.map (some m)) := hSw.1.cell 0
    have cp : w.cell? ⟨r, 1, none⟩ = some (.string x.path) := hSw.2.2.cell 1
    have co : w.cell? ⟨r, 8, none⟩ = some (.int .i64 x.owner) := hSw.2.2.cell 8
    have cd : w.cell? ⟨b, 2, none⟩ = some (.string o.data) := hSw.2.1.cell 2
    go_simp
    with_reducible rfl
  simp only [List.setIfInBounds_toArray, List.set_cons_zero, List.set_cons_succ]
  refine' take_at (i := 3) (d := 17) (v := _) rfl rfl (by kernel_rfl) (by kernel_rfl) (by kernel_rfl) (fun _ _ _ h => h) (Or.inl ⟨by rfl, ?h3⟩) (⟨H1.out.1.blk, H1.out.2.1.op, H1.out.2.1.res⟩) ?_
  case h3 =>
    intro w hSw
    have cq : w.cell? ⟨q, 0, none⟩ = some (.map (some m)) := hSw.1.cell 0
    have cp : w.cell? ⟨r, 1, none⟩ = some (.string x.path) := hSw.2.2.cell 1
    have co : w.cell? ⟨r, 8, none⟩ = some (.int .i64 x.owner) := hSw.2.2.cell 8
    have cd : w.cell? ⟨b, 2, none⟩ = some (.string o.data) := hSw.2.1.cell 2
    go_simp
    with_reducible rfl
  simp only [List.setIfInBounds_toArray, List.set_cons_zero, List.set_cons_succ]
  refine' take_at (i := 4) (d := 18) (v := _) rfl rfl (by kernel_rfl) (by kernel_rfl) (by kernel_rfl) (fun _ _ _ h => h) (Or.inl ⟨by rfl, ?h4⟩) (⟨H1.out.1.blk, H1.out.2.1.op, H1.out.2.1.res⟩) ?_
  case h4 =>
    intro w hSw
    have cq : w.cell? ⟨q, 0, none⟩ = some (.map (some m)) := hSw.1.cell 0
    have cp : w.cell? ⟨r, 1, none⟩ = some (.string x.path) := hSw.2.2.cell 1
    have co : w.cell? ⟨r, 8, none⟩ = some (.int .i64 x.owner) := hSw.2.2.cell 8
    have cd : w.cell? ⟨b, 2, none⟩ = some (.string o.data) := hSw.2.1.cell 2
    go_simp
    with_reducible rfl
  simp only [List.setIfInBounds_toArray, List.set_cons_zero, List.set_cons_succ]
  refine' take_at (i := 5) (d := 19) (v := _) rfl rfl (by kernel_rfl) (by kernel_rfl) (by kernel_rfl) (fun _ _ _ h => h) (Or.inl ⟨by rfl, ?h5⟩) (⟨H1.out.1.blk, H1.out.2.1.op, H1.out.2.1.res⟩) ?_
  case h5 =>
    intro w hSw
    have cq : w.cell? ⟨q, 0, none⟩ = some (.map (some m)) := hSw.1.cell 0
    have cp : w.cell? ⟨r, 1, none⟩ = some (.string x.path) := hSw.2.2.cell 1
    have co : w.cell? ⟨r, 8, none⟩ = some (.int .i64 x.owner) := hSw.2.2.cell 8
    have cd : w.cell? ⟨b, 2, none⟩ = some (.string o.data) := hSw.2.1.cell 2
    go_simp
    with_reducible rfl
  simp only [List.setIfInBounds_toArray, List.set_cons_zero, List.set_cons_succ]
  refine' take_at (i := 6) (d := 20) (v := _) rfl rfl (by kernel_rfl) (by kernel_rfl) (by kernel_rfl) (fun _ _ _ h => h) (Or.inl ⟨by rfl, ?h6⟩) (⟨H1.out.1.blk, H1.out.2.1.op, H1.out.2.1.res⟩) ?_
  case h6 =>
    intro w hSw
    have cq : w.cell? ⟨q, 0, none⟩ = some (.map (some m)) := hSw.1.cell 0
    have cp : w.cell? ⟨r, 1, none⟩ = some (.string x.path) := hSw.2.2.cell 1
    have co : w.cell? ⟨r, 8, none⟩ = some (.int .i64 x.owner) := hSw.2.2.cell 8
    have cd : w.cell? ⟨b, 2, none⟩ = some (.string o.data) := hSw.2.1.cell 2
    go_simp
    with_reducible rfl
  simp only [List.setIfInBounds_toArray, List.set_cons_zero, List.set_cons_succ]
  refine' take_at (i := 7) (d := 21) (v := _) rfl rfl (by kernel_rfl) (by kernel_rfl) (by kernel_rfl) (fun _ _ _ h => h) (Or.inl ⟨by rfl, ?h7⟩) (⟨H1.out.1.blk, H1.out.2.1.op, H1.out.2.1.res⟩) ?_
  case h7 =>
    intro w hSw
    have cq : w.cell? ⟨q, 0, none⟩ = some (.map (some m)) := hSw.1.cell 0
    have cp : w.cell? ⟨r, 1, none⟩ = some (.string x.path) := hSw.2.2.cell 1
    have co : w.cell? ⟨r, 8, none⟩ = some (.int .i64 x.owner) := hSw.2.2.cell 8
    have cd : w.cell? ⟨b, 2, none⟩ = some (.string o.data) := hSw.2.1.cell 2
    go_simp
    with_reducible rfl
  simp only [List.setIfInBounds_toArray, List.set_cons_zero, List.set_cons_succ]
  refine' take_at (i := 8) (d := 22) (v := _) rfl rfl (by kernel_rfl) (by kernel_rfl) (by kernel_rfl) (fun _ _ _ h => h) (Or.inl ⟨by rfl, ?h8⟩) (⟨H1.out.1.blk, H1.out.2.1.op, H1.out.2.1.res⟩) ?_
  case h8 =>
    intro w hSw
    have cq : w.cell? ⟨q, 0, none⟩ = some (.map (some m)) := hSw.1.cell 0
    have cp : w.cell? ⟨r, 1, none⟩ = some (.string x.path) := hSw.2.2.cell 1
    have co : w.cell? ⟨r, 8, none⟩ = some (.int .i64 x.owner) := hSw.2.2.cell 8
    have cd : w.cell? ⟨b, 2, none⟩ = some (.string o.data) := hSw.2.1.cell 2
    go_simp
    with_reducible rfl
  simp only [List.setIfInBounds_toArray, List.set_cons_zero, List.set_cons_succ]
  refine' take_at (i := 9) (d := 23) (v := _) rfl rfl (by kernel_rfl) (by kernel_rfl) (by kernel_rfl) (fun _ _ _ h => h) (Or.inl ⟨by rfl, ?h9⟩) (⟨H1.out.1.blk, H1.out.2.1.op, H1.out.2.1.res⟩) ?_
  case h9 =>
    intro w hSw
    have cq : w.cell? ⟨q, 0, none⟩ = some (.map (some m)) := hSw.1.cell 0
    have cp : w.cell? ⟨r, 1, none⟩ = some (.string x.path) := hSw.2.2.cell 1
    have co : w.cell? ⟨r, 8, none⟩ = some (.int .i64 x.owner) := hSw.2.2.cell 8
    have cd : w.cell? ⟨b, 2, none⟩ = some (.string o.data) := hSw.2.1.cell 2
    go_simp
    with_reducible rfl
  simp only [List.setIfInBounds_toArray, List.set_cons_zero, List.set_cons_succ]
  refine' take_at (i := 10) (d := 24) (v := _) rfl rfl (by kernel_rfl) (by kernel_rfl) (by kernel_rfl) (fun _ _ _ h => h) (Or.inl ⟨by rfl, ?h10⟩) (⟨H1.out.1.blk, H1.out.2.1.op, H1.out.2.1.res⟩) ?_
  case h10 =>
    intro w hSw
    have cq : w.cell? ⟨q, 0, none⟩ = some (.map (some m)) := hSw.1.cell 0
    have cp : w.cell? ⟨r, 1, none⟩ = some (.string x.path) := hSw.2.2.cell 1
    have co : w.cell? ⟨r, 8, none⟩ = some (.int .i64 x.owner) := hSw.2.2.cell 8
    have cd : w.cell? ⟨b, 2, none⟩ = some (.string o.data) := hSw.2.1.cell 2
    go_simp
    with_reducible rfl
  simp only [List.setIfInBounds_toArray, List.set_cons_zero, List.set_cons_succ]
  refine' take_at (i := 11) (d := 25) (v := _) rfl rfl (by kernel_rfl) (by kernel_rfl) (by kernel_rfl) (fun _ _ _ h => h) (Or.inl ⟨by rfl, ?h11⟩) (⟨H1.out.1.blk, H1.out.2.1.op, H1.out.2.1.res⟩) ?_
  case h11 =>
    intro w hSw
    have cq : w.cell? ⟨q, 0, none⟩ = some (.map (some m)) := hSw.1.cell 0
    have cp : w.cell? ⟨r, 1, none⟩ = some (.string x.path) := hSw.2.2.cell 1
    have co : w.cell? ⟨r, 8, none⟩ = some (.int .i64 x.owner) := hSw.2.2.cell 8
    have cd : w.cell? ⟨b, 2, none⟩ = some (.string o.data) := hSw.2.1.cell 2
    go_simp
    with_reducible rfl
  simp only [List.setIfInBounds_toArray, List.set_cons_zero, List.set_cons_succ]
  refine wpAnyH_ready (rs := [12]) (by kernel_rfl) (by simp) ?_
  refine AllReadyH.cons (o := _) rfl (fun KQ hKQ => ?_) AllReadyH.nil
  go_simp
  refine (new_any10 z x.owner o.data w1 (by have := HN.out.2.2.2.2; omega)).mono ?_
  rintro e w2 ⟨na, nc, rfl, hrow, hb⟩
  have H2 : Hid (TkU w2 q t G m D P V ∧ Fc11 w w2 b r o x (.slice ra rk rc) ∧ Pa.Std w2 ∧ w2.ownsRow w1.heap.size 9 1 (.slice na 0 nc) 0 [] ∧ b < w1.heap.size ∧ r < w1.heap.size ∧ w1.heap.size ≤ w2.heap.size) := ⟨H1.out.1.below hb, H1.out.2.1.later hb, H1.out.2.2.below hb, hrow, H1.out.2.1.op.lt, H1.out.2.1.res.lt, hb.size⟩
  clear hrow hb
  unfold kv
  simp only []
  refine hKQ.out _ _ ⟨H2.out.1.blk, H2.out.2.1.op, H2.out.2.1.res⟩ (fun _ => ?_)
  clear hKQ KQ
  refine' take_at (i := 13) (d := 27) (v := _) rfl rfl (by kernel_rfl) (by kernel_rfl) (by kernel_rfl) (fun _ _ _ h => h) (Or.inl ⟨by rfl, ?h13⟩) (⟨H2.out.1.blk, H2.out.2.1.op, H2.out.2.1.res⟩) ?_
  case h13 =>
    intro w hSw
    go_simp
    with_reducible rfl
  simp only [List.setIfInBounds_toArray, List.set_cons_zero, List.set_cons_succ]
  refine wpAnyH_ready (rs := [14]) (by kernel_rfl) (by simp) ?_
  refine AllReadyH.cons (o := _) rfl (fun KQ hKQ => ?_) AllReadyH.nil
  go_simp
  obtain ⟨nb, hnb⟩ : ∃ nb, nb = w2.heap.size := ⟨_, rfl⟩
  have H3 : Hid (TkU (w2.alloc (.cells #[.int .i64 (Kq.new z x.owner o.data).made, .int .i64 (Kq.new z x.owner o.data).changed, .int .i64 (Kq.new z x.owner o.data).ver, .int .i64 (Kq.new z x.owner o.data).kids, .int .i64 (Kq.new z x.owner o.data).owner, .int .i64 (Kq.new z x.owner o.data).len, .int .i64 (Kq.new z x.owner o.data).cnt, .string (Kq.new z x.owner o.data).data, .int .i64 (Kq.new z x.owner o.data).next, .slice na 0 nc] 175)) q t (fun k => G k ∨ k = nb ∨ (Value.slice na 0 nc).ownBlock = some k) m D P V ∧ Fc11 w (w2.alloc (.cells #[.int .i64 (Kq.new z x.owner o.data).made, .int .i64 (Kq.new z x.owner o.data).changed, .int .i64 (Kq.new z x.owner o.data).ver, .int .i64 (Kq.new z x.owner o.data).kids, .int .i64 (Kq.new z x.owner o.data).owner, .int .i64 (Kq.new z x.owner o.data).len, .int .i64 (Kq.new z x.owner o.data).cnt, .string (Kq.new z x.owner o.data).data, .int .i64 (Kq.new z x.owner o.data).next, .slice na 0 nc] 175)) b r o x (.slice ra rk rc) ∧ Pa.Std (w2.alloc (.cells #[.int .i64 (Kq.new z x.owner o.data).made, .int .i64 (Kq.new z x.owner o.data).changed, .int .i64 (Kq.new z x.owner o.data).ver, .int .i64 (Kq.new z x.owner o.data).kids, .int .i64 (Kq.new z x.owner o.data).owner, .int .i64 (Kq.new z x.owner o.data).len, .int .i64 (Kq.new z x.owner o.data).cnt, .string (Kq.new z x.owner o.data).data, .int .i64 (Kq.new z x.owner o.data).next, .slice na 0 nc] 175)) ∧ Own11 (w2.alloc (.cells #[.int .i64 (Kq.new z x.owner o.data).made, .int .i64 (Kq.new z x.owner o.data).changed, .int .i64 (Kq.new z x.owner o.data).ver, .int .i64 (Kq.new z x.owner o.data).kids, .int .i64 (Kq.new z x.owner o.data).owner, .int .i64 (Kq.new z x.owner o.data).len, .int .i64 (Kq.new z x.owner o.data).cnt, .string (Kq.new z x.owner o.data).data, .int .i64 (Kq.new z x.owner o.data).next, .slice na 0 nc] 175)) nb (Kq.new z x.owner o.data) (.slice na 0 nc) ∧ (∀ f ∈ t.l, P f.1 ≠ nb ∧ ∀ k, (V f.1).ownBlock = some k → (Value.slice na 0 nc).ownBlock ≠ some k) ∧ (∀ k, (k = nb ∨ (Value.slice na 0 nc).ownBlock = some k) → w.heap.size ≤ k ∧ k ≠ b ∧ k ≠ r)) := by
    have hba := (Below.refl _ w2).alloc (Nat.le_refl _) (.cells (k10 (Kq.new z x.owner o.data) (.slice na 0 nc)).toArray 175)
    have hsz : (w2.alloc (.cells (k10 (Kq.new z x.owner o.data) (.slice na 0 nc)).toArray 175)).heap.size = w2.heap.size + 1 := World.size_alloc _ _
    have hcb : Cb (w2.alloc (.cells #[.int .i64 (Kq.new z x.owner o.data).made, .int .i64 (Kq.new z x.owner o.data).changed, .int .i64 (Kq.new z x.owner o.data).ver, .int .i64 (Kq.new z x.owner o.data).kids, .int .i64 (Kq.new z x.owner o.data).owner, .int .i64 (Kq.new z x.owner o.data).len, .int .i64 (Kq.new z x.owner o.data).cnt, .string (Kq.new z x.owner o.data).data, .int .i64 (Kq.new z x.owner o.data).next, .slice na 0 nc] 175)) nb (k10 (Kq.new z x.owner o.data) (.slice na 0 nc)) 175 := by rw [hnb]; exact Cb.made w2 _ _
    have hlt := H2.out.1.glt
    have hrl := H2.out.2.2.2.1.lt
    have hx1 := H2.out.2.2.2.2.1
    have hx2 := H2.out.2.2.2.2.2.1
    have hx3 := H2.out.2.2.2.2.2.2
    have hbw := H2.out.2.1.hb
    refine ⟨(H2.out.1.below hba).more (fun k hk => Or.inl hk) (fun k hk => ?_), H2.out.2.1.later hba, H2.out.2.2.1.below hba, ⟨hcb, ?_, List.Pairwise.nil⟩, fun f hf => ⟨fun e => ?_, fun k hk e => ?_⟩, fun k hk => ?_⟩
    · rw [hsz]
      rcases hk with hk | hk | hk
      · have := hlt k hk
        omega
      · omega
      · have := (hrl k hk).2
        omega
    · exact (row_stays H2.out.2.2.2.1 (fun k e => hba.block k (hrl k e).2)).mono (Nat.zero_le _)
    · have h1 := hlt _ (H2.out.1.gf f hf).1
      omega
    · have h1 := HHW.out _ ((H2.out.1.gf f hf).2 k hk)
      have h2 := (hrl k e).1
      omega
    · rcases hk with hk | hk
      · omega
      · have h2 := (hrl k hk).1
        omega
  rw [← hnb]
  clear hnb H1 H2
  generalize (w2.alloc (.cells #[.int .i64 (Kq.new z x.owner o.data).made, .int .i64 (Kq.new z x.owner o.data).changed, .int .i64 (Kq.new z x.owner o.data).ver, .int .i64 (Kq.new z x.owner o.data).kids, .int .i64 (Kq.new z x.owner o.data).owner, .int .i64 (Kq.new z x.owner o.data).len, .int .i64 (Kq.new z x.owner o.data).cnt, .string (Kq.new z x.owner o.data).data, .int .i64 (Kq.new z x.owner o.data).next, .slice na 0 nc] 175)) = w3 at *
  refine hKQ.out _ _ ⟨H3.out.1.blk, H3.out.2.1.op, H3.out.2.1.res⟩ (fun _ => ?_)
  clear hKQ KQ
  refine wpAnyH_ready (rs := [15]) (by kernel_rfl) (by simp) ?_
  refine AllReadyH.cons (o := _) rfl (fun KQ hKQ => ?_) AllReadyH.nil
  obtain ⟨w4, hrun, hown, hturn⟩ := H3.out.1.own.store keyed11 Tryz.underlying111 (by have h1 := HN.out.2.2.1.len; have h2 := HN.out.2.2.1.room; unfold maxLen; omega) (key_of HN.out.2.1) (fElem_ptr nb)
  have key := H3.out.1.come HN.out.2.1 HN.out.1 hown hturn H3.out.2.2.2.1 H3.out.2.2.2.2.1 ⟨Or.inr (Or.inl rfl), fun k hk => Or.inr (Or.inr hk)⟩
  have H2 : Hid (TkU w4 q { t with l := l1 } (fun k => G k ∨ k = nb ∨ (Value.slice na 0 nc).ownBlock = some k) m (D.put (fkey x.path) (.held nb)) (fun x' => if x' = x.path then nb else P x') (fun x' => if x' = x.path then .slice na 0 nc else V x') ∧ Gc11 w w4 G (fun k => G k ∨ k = nb ∨ (Value.slice na 0 nc).ownBlock = some k) b r o x (.slice ra rk rc)) := by
    rw [HL1.out]
    have hne : ∀ k, (k = b ∨ k = r) → ¬ (fun k => G k ∨ k = nb ∨ (Value.slice na 0 nc).ownBlock = some k) k := fun k hk hG => by
      have hb := H3.out.2.1.hb
      have hr := H3.out.2.1.hr
      rcases hG with hG | hG
      · have := HHW.out k hG
        omega
      · have := H3.out.2.2.2.2.2 k hG
        omega
    have hmv : Moved w w4 G (fun k => G k ∨ k = nb ∨ (Value.slice na 0 nc).ownBlock = some k) := by
      have h1 := H3.out.2.1.below
      have h2 := key.2
      have hs1 := h1.size
      refine ⟨h2.os.trans h1.os, h2.tape.trans h1.tape, h2.output.trans h1.output, Nat.le_trans h1.size h2.size, fun k hk hG => (h2.block k (by omega) (fun e => ?_)).trans (h1.block k hk), fun k hk => ?_⟩
      · rcases e with e | e
        · exact hG e
        · have := (H3.out.2.2.2.2.2 k e).1
          omega
      · rcases hk with e | e
        · exact Or.inl e
        · exact Or.inr (H3.out.2.2.2.2.2 k e).1
    refine ⟨key.1, ⟨H3.out.2.1.op.keep (key.2.block b H3.out.2.1.op.lt (hne b (Or.inl rfl))), H3.out.2.1.res.keep (key.2.block r H3.out.2.1.res.lt (hne r (Or.inr rfl))), H3.out.2.1.hb, H3.out.2.1.hr, hmv, H3.out.2.2.1.moved key.2 (fun k hk => ?_), fun k hk => ?_⟩⟩
    · rcases hk with e | e
      · exact HN.out.2.2.2.1 k e
      · have h1 := (H3.out.2.2.2.2.2 k e).1
        have h2 := HSZ.out
        omega
    · rcases hk with e | e
      · exact Or.inl e
      · exact Or.inr (H3.out.2.2.2.2.2 k e)
  clear hown hturn key
  go_simp
  clear hrun
  refine hKQ.out _ _ ⟨H2.out.1.blk, H2.out.2.op, H2.out.2.res⟩ (fun _ => ?_)
  clear hKQ KQ H3
  refine wpAnyH_done (by kernel_rfl) ?_ _
  have p1 : w4.cell? ⟨r, 1, none⟩ = some (.string x.path) := H2.out.2.res.cell 1
  go_wp2_with fail
  refine (above_any11 x.path H2.out.1 H2.out.2.std HGP.out).mono ?_
  rintro e w3 ⟨hb, hy, hn⟩
  have H3 : Hid (TkU w3 q { t with l := l1 } (fun k => G k ∨ k = nb ∨ (Value.slice na 0 nc).ownBlock = some k) m (D.put (fkey x.path) (.held nb)) (fun x' => if x' = x.path then nb else P x') (fun x' => if x' = x.path then .slice na 0 nc else V x') ∧ Gc11 w w3 G (fun k => G k ∨ k = nb ∨ (Value.slice na 0 nc).ownBlock = some k) b r o x (.slice ra rk rc)) := ⟨H2.out.1.below hb, H2.out.2.later hb⟩
  clear hb p1 H2
  cases ha : Tq.abv l1 x.path with
  | none =>
    obtain rfl := hn ha
    have HE : Hid (l2 = l1) := by
      have e : l2 = l1 := by rw [HAB.out, ha]
      exact e
    clear ha hy hn
    go_wp2
    go_end0
    exact ⟨rfl, (fun k => G k ∨ k = nb ∨ (Value.slice na 0 nc).ownBlock = some k), by rw [HE.out]; exact ⟨_, _, _, _, H3.out.1⟩, H3.out.2.mv⟩
  | some um =>
    obtain ⟨pb, hpb⟩ : ∃ pb, pb = (fun x' => if x' = x.path then nb else P x') um.1 := ⟨_, rfl⟩
    have he : e = .returned (.tuple #[dptr pb, .bool true]) := by rw [hpb]; exact hy um ha
    subst he
    have HU : Hid (l2 = Tq.set l1 um.1 (Kq.add um.2 (Tq.nm x.path)) ∧ Tq.find l1 um.1 = some um.2 ∧ pb = (fun x' => if x' = x.path then nb else P x') um.1 ∧ Node11 um.2) := ⟨by rw [HAB.out, ha], (Tq.abv_some ha).2, hpb, (HF1.out.nodes _ (Tq.find_some (Tq.abv_some ha).2)).2⟩
    clear ha hy hn hpb
    go_wp2_with fail
    refine wp_region_held_drew (S := fun w' => Cb w' r (xc x (.slice ra rk rc)) 75) (by kernel_rfl) H3.out.2.res (fun _ => ?_)
    have H4 : Hid (TkU w3.drew q { t with l := l1 } (fun k => G k ∨ k = nb ∨ (Value.slice na 0 nc).ownBlock = some k) m (D.put (fkey x.path) (.held nb)) (fun x' => if x' = x.path then nb else P x') (fun x' => if x' = x.path then .slice na 0 nc else V x') ∧ Gc11 w w3.drew G (fun k => G k ∨ k = nb ∨ (Value.slice na 0 nc).ownBlock = some k) b r o x (.slice ra rk rc)) := ⟨H3.out.1.below (Below.refl _ _).drew, H3.out.2.later (Below.refl _ _).drew⟩
    clear H3
    generalize w3.drew = w4 at *
    refine' take_at (i := 0) (d := 37) (v := _) rfl rfl (by kernel_rfl) (by kernel_rfl) (by kernel_rfl) (fun _ _ _ h => h) (Or.inl ⟨by rfl, ?h0⟩) (H4.out.2.res) ?_
    case h0 =>
      intro w hSw
      have cp : w.cell? ⟨r, 1, none⟩ = some (.string x.path) := hSw.cell 1
      go_simp
      with_reducible rfl
    simp only [List.setIfInBounds_toArray, List.set_cons_zero, List.set_cons_succ]
    refine' take_at (i := 1) (d := 38) (v := _) rfl rfl (by kernel_rfl) (by kernel_rfl) (by kernel_rfl) (fun _ _ _ h => h) (Or.inl ⟨by rfl, ?h1⟩) (H4.out.2.res) ?_
    case h1 =>
      intro w hSw
      have cp : w.cell? ⟨r, 1, none⟩ = some (.string x.path) := hSw.cell 1
      go_simp
      with_reducible rfl
    simp only [List.setIfInBounds_toArray, List.set_cons_zero, List.set_cons_succ]
    refine' take_at (i := 2) (d := 39) (v := _) rfl rfl (by kernel_rfl) (by kernel_rfl) (by kernel_rfl) (fun _ _ _ h => h) (Or.inl ⟨by rfl, ?h2⟩) (H4.out.2.res) ?_
    case h2 =>
      intro w hSw
      have cp : w.cell? ⟨r, 1, none⟩ = some (.string x.path) := hSw.cell 1
      go_simp
      with_reducible rfl
    simp only [List.setIfInBounds_toArray, List.set_cons_zero, List.set_cons_succ]
    refine' take_at (i := 3) (d := 40) (v := _) rfl rfl (by kernel_rfl) (by kernel_rfl) (by kernel_rfl) (fun _ _ _ h => h) (Or.inl ⟨by rfl, ?h3⟩) (H4.out.2.res) ?_
    case h3 =>
      intro w hSw
      have cp : w.cell? ⟨r, 1, none⟩ = some (.string x.path) := hSw.cell 1
      go_simp
      with_reducible rfl
    simp only [List.setIfInBounds_toArray, List.set_cons_zero, List.set_cons_succ]
    refine' take_at (i := 4) (d := 41) (v := _) rfl rfl (by kernel_rfl) (by kernel_rfl) (by kernel_rfl) (fun _ _ _ h => h) (Or.inl ⟨by rfl, ?h4⟩) (H4.out.2.res) ?_
    case h4 =>
      intro w hSw
      have cp : w.cell? ⟨r, 1, none⟩ = some (.string x.path) := hSw.cell 1
      go_simp
      with_reducible rfl
    simp only [List.setIfInBounds_toArray, List.set_cons_zero, List.set_cons_succ]
    refine wpAnyH_ready (rs := [5]) (by kernel_rfl) (by simp) ?_
    refine AllReadyH.cons (o := _) rfl (fun KQ hKQ => ?_) AllReadyH.nil
    go_simp
    refine (name_nm x.path w4 H4.out.2.std HGP.out).mono ?_
    rintro e w5 ⟨rfl, hb⟩
    have H5 : Hid (TkU w5 q { t with l := l1 } (fun k => G k ∨ k = nb ∨ (Value.slice na 0 nc).ownBlock = some k) m (D.put (fkey x.path) (.held nb)) (fun x' => if x' = x.path then nb else P x') (fun x' => if x' = x.path then .slice na 0 nc else V x') ∧ Gc11 w w5 G (fun k => G k ∨ k = nb ∨ (Value.slice na 0 nc).ownBlock = some k) b r o x (.slice ra rk rc)) := ⟨H4.out.1.below hb, H4.out.2.later hb⟩
    clear hb H4
    simp only []
    refine hKQ.out _ _ H5.out.2.res (fun _ => ?_)
    clear hKQ KQ
    refine wpAnyH_ready (rs := [6]) (by kernel_rfl) (by simp) ?_
    refine AllReadyH.cons (o := _) rfl (fun KQ hKQ => ?_) AllReadyH.nil
    go_simp
    refine (add_any11 pb um.2 ((fun x' => if x' = x.path then .slice na 0 nc else V x') um.1) (Tq.nm x.path) w5 (by rw [HU.out.2.2.1]; exact H5.out.1.node _ (Tq.find_some HU.out.2.1)) (fine11_10 HU.out.2.2.2) (by have := name_len (Tq.nm_ok HGP.out); omega)).mono ?_
    rintro e w6 ⟨v6, rfl, hO, hmv⟩
    have H6 : Hid ((∃ G', LTk w6 q { t with l := l2 } G' ∧ Moved w w6 G G') ∧ Cb w6 r (xc x (.slice ra rk rc)) 75) := by
      rw [HU.out.2.2.1] at hO hmv
      have hm := Tq.find_some HU.out.2.1
      have key := H5.out.1.change hm hO hmv
      refine ⟨⟨_, by rw [HU.out.1]; exact ⟨_, _, _, _, key.1⟩, H5.out.2.mv.trans key.2⟩, H5.out.2.res.keep (hmv.block r H5.out.2.res.lt (fun e => ?_))⟩
      have hG : (fun k => G k ∨ k = nb ∨ (Value.slice na 0 nc).ownBlock = some k) r := by
        rcases e with e | e
        · rw [e]
          exact (H5.out.1.gf _ hm).1
        · exact (H5.out.1.gf _ hm).2 r e
      rcases H5.out.2.apart r hG with h1 | h1
      · have := HHW.out r h1
        have := H5.out.2.hr
        omega
      · exact h1.2.2 rfl
    clear hO hmv H5
    simp only []
    refine hKQ.out _ _ H6.out.2 (fun _ => ?_)
    clear hKQ KQ
    refine wpAnyH_done (by kernel_rfl) ?_ _
    go_wp2
    go_end0
    exact ⟨rfl, H6.out.1⟩
end
end Go.Proofs.YtboejbjobjhajaaGreatDoor
namespace Go.Proofs.YtboejbjobjhajaaGreatDoor.Tq
open Kq
theorem doo_ok {t : Tr} {o : O} {s z : Int} {x : X} {t' : Tr} (hd : doo t o s z = (x, t')) : (x.err ≠ 0 ∧ t' = t) ∨ (x.err = 0 ∧ Oq.good o = 0 ∧ Pl.goodB x.path.data.toList = true ∧
    ((o.kind = 1 ∧ find t.l x.path = none ∧ (t.l.length : Int) < t.room ∧ t' = { t with l := ins (named t.l (up x.path) x.path) x.path (new z x.owner o.data) }) ∨
     (o.kind = 2 ∧ (∃ n, find t.l x.path = some n) ∧ t' = { t with l := orphan (del t.l x.path) x.path }) ∨
     (o.kind = 3 ∧ ∃ n, find t.l x.path = some n ∧ t' = { t with l := set t.l x.path (write n z o.data) }) ∨ (4 ≤ o.kind ∧ t' = t))) := by
  unfold doo at hd
  by_cases hg : Oq.good o = 0
  · have hp := good_path hg
    rw [if_neg (by simp [hg])] at hd
    by_cases hs : s < 1 ∨ z < 0
    · rw [if_pos hs] at hd
      obtain ⟨rfl, rfl⟩ := Prod.mk.inj hd
      exact Or.inl ⟨by simp [fail], rfl⟩
    rw [if_neg hs] at hd
    by_cases hk : o.kind = 1
    · rw [if_pos hk] at hd
      by_cases h1 : (placeT t o).2 = 0
      · obtain ⟨h2, h3⟩ := create_may (t := t) (s := s) (z := z) hp h1
        rw [h2, make_may] at hd
        by_cases h4 : mayT t (placeT t o).1 ≠ 0
        · rw [if_pos h4] at hd
          obtain ⟨rfl, rfl⟩ := Prod.mk.inj hd
          exact Or.inl ⟨h4, rfl⟩
        · rw [if_neg h4] at hd
          obtain ⟨rfl, rfl⟩ := Prod.mk.inj hd
          have h5 : mayT t (placeT t o).1 = 0 := Classical.not_not.1 h4
          unfold mayT at h5
          cases hf : find t.l (placeT t o).1 with
          | some n => rw [hf] at h5; cases h5
          | none =>
            rw [hf] at h5
            simp only [] at h5
            refine Or.inr ⟨rfl, hg, h3, Or.inl ⟨hk, hf, ?_, rfl⟩⟩
            by_cases h6 : t.room ≤ (t.l.length : Int)
            · rw [if_pos h6] at h5; cases h5
            · omega
      · rw [create_no h1] at hd
        obtain ⟨rfl, rfl⟩ := Prod.mk.inj hd
        exact Or.inl ⟨h1, rfl⟩
    · rw [if_neg hk] at hd
      have hk7 := Oq.head_no (good_zero hg).1
      cases hf : find t.l o.path with
      | none =>
        rw [hf] at hd
        obtain ⟨rfl, rfl⟩ := Prod.mk.inj hd
        exact Or.inl ⟨by simp [fail], rfl⟩
      | some n =>
        rw [hf] at hd
        simp only [] at hd
        unfold atNode at hd
        split at hd
        · obtain ⟨rfl, rfl⟩ := Prod.mk.inj hd
          exact Or.inl ⟨by simp [fail], rfl⟩
        split at hd
        · rename_i h2
          split at hd
          · obtain ⟨rfl, rfl⟩ := Prod.mk.inj hd
            exact Or.inl ⟨by simp [fail], rfl⟩
          · obtain ⟨rfl, rfl⟩ := Prod.mk.inj hd
            exact Or.inr ⟨rfl, hg, hp, Or.inr (Or.inl ⟨h2, ⟨n, hf⟩, rfl⟩)⟩
        split at hd
        · rename_i h3
          obtain ⟨rfl, rfl⟩ := Prod.mk.inj hd
          exact Or.inr ⟨rfl, hg, hp, Or.inr (Or.inr (Or.inl ⟨h3, n, hf, rfl⟩))⟩
        have h4 : 4 ≤ o.kind := by omega
        split at hd
        · obtain ⟨rfl, rfl⟩ := Prod.mk.inj hd
          exact Or.inr ⟨rfl, hg, hp, Or.inr (Or.inr (Or.inr ⟨h4, rfl⟩))⟩
        split at hd
        · obtain ⟨rfl, rfl⟩ := Prod.mk.inj hd
          exact Or.inr ⟨rfl, hg, hp, Or.inr (Or.inr (Or.inr ⟨h4, rfl⟩))⟩
        split at hd
        · obtain ⟨rfl, rfl⟩ := Prod.mk.inj hd
          exact Or.inr ⟨rfl, hg, hp, Or.inr (Or.inr (Or.inr ⟨h4, rfl⟩))⟩
        · obtain ⟨rfl, rfl⟩ := Prod.mk.inj hd
          exact Or.inr ⟨rfl, hg, hp, Or.inr (Or.inr (Or.inr ⟨h4, rfl⟩))⟩
  · rw [if_pos hg] at hd
    obtain ⟨rfl, rfl⟩ := Prod.mk.inj hd
    exact Or.inl ⟨hg, rfl⟩
end Go.Proofs.YtboejbjobjhajaaGreatDoor.Tq
namespace Go.Proofs.YtboejbjobjhajaaGreatDoor
open Go.RowKit
theorem sq_lt {w : World} {v : Value} {l : List ByteArray} (h : Sq w v l) (hl : l ≠ []) {k : Nat} (hk : v.ownBlock = some k) : k < w.heap.size := by
  obtain ⟨av, j, c, rfl, _, _, _, hs⟩ := h
  cases l with
  | nil => exact absurd rfl hl
  | cons s l =>
    obtain ⟨g, o, e, hc⟩ := hs 0 s rfl
    subst e
    simp only [Value.ownBlock, Option.some.injEq] at hk
    subst hk
    exact World.block_lt_of_cell? w _ hc
theorem sq_moved {w w' : World} {F F' : Nat → Prop} {v : Value} {l : List ByteArray} (h : Sq w v l) (hm : Moved w w' F F') (hv : ∀ k, v.ownBlock = some k → ¬ F k) : Sq w' v l := by
  obtain ⟨av, k, c, rfl, hk, hkc, hn, hs⟩ := h
  refine ⟨av, k, c, rfl, hk, hkc, hn, fun j s hj => ?_⟩
  obtain ⟨g, o, e, hc⟩ := hs j s hj
  exact ⟨g, o, e, (World.cell?_of_block (hm.block g (World.block_lt_of_cell? w _ hc) (hv g (by rw [e]; rfl)))).trans hc⟩
theorem ltk_keep {w w' : World} {q : Nat} {t : Tq.Tr} {G : Nat → Prop} (h : LTk w q t G) (hk : ∀ k, G k → w'.heap[k]? = w.heap[k]?) : LTk w' q t G := by
  obtain ⟨m, D, P, V, h⟩ := h
  exact ⟨m, D, P, V, h.keep hk⟩
theorem ltk_lt {w : World} {q : Nat} {t : Tq.Tr} {G : Nat → Prop} {k : Nat} (h : LTk w q t G) (hk : G k) : k < w.heap.size := by
  obtain ⟨m, D, P, V, h⟩ := h
  exact h.glt k hk
theorem do_fin {W w2 w3 : World} {q b r : Nat} {o : O} {t' : Tq.Tr} {G G' : Nat → Prop} {v : Value} {l : List ByteArray} (hfr : Fr11 W w2 b r o) (hL : LTk w3 q t' G') (hm : Moved w2 w3 G G') (hG : ∀ k, G k → k < W.heap.size) (hsq : Sq w2 v l) (hv : ∀ k, v.ownBlock = some k → r < k) (ds : Array Value) :
    Sq (w3.setRow r ds) v l ∧ (l ≠ [] → Off11 G' v) ∧ LTk (w3.setRow r ds) q t' G' ∧ Moved W (w3.setRow r ds) G G' := by
  have h1 := hfr.ne
  have h2 := hfr.hi
  have hr := hfr.res.lt
  have hrG : ¬ G' r := fun e => by
    rcases hm.sub r e with e | e
    · have := hG r e
      omega
    · omega
  have hvG : ∀ k, v.ownBlock = some k → ¬ G k := fun k hk e => by
    have := hG k e
    have := hv k hk
    omega
  have h3 := (Moved.of_below G hfr.below).trans hm
  refine ⟨sq_rowed (sq_moved hsq hm hvG) (fun k hk => by have := hv k hk; omega), fun hl k hk e => ?_, ltk_keep hL (fun k hk => setRow_other w3 r k ds (fun e => hrG (e ▸ hk))), ⟨h3.os, h3.tape, h3.output, by rw [setRow_size]; exact h3.size, fun k hk hF => (setRow_other w3 r k ds (by omega)).trans (h3.block k hk hF), h3.sub⟩⟩
  have h4 := sq_lt hsq hl hk
  rcases hm.sub k e with e | e
  · exact hvG k hk e
  · omega
section
variable {w : World} {q m : Nat} {t : Tq.Tr} {G : Nat → Prop} {D : DataW Nat} {P : ByteArray → Nat} {V : ByteArray → Value}
theorem change_any11 {t' : Tq.Tr} (o : O) (s z : Int) (x : X) (ra : Option Addr) (rk rc : Nat) (h : TkU w q t G m D P V) (hf : Fine11 t) (h6 : ∀ k, G k → 6 ≤ k) (hS : Pa.Std w) (hd : Tq.doo t o s z = (x, t')) (he : x.err = 0) :
    Calls Tryz.prog 162 #[dptr q, ov o, .int .i64 z, rv x (.slice ra rk rc)] w fun e w' => e = .returned (.tuple #[]) ∧ ∃ G', LTk w' q t' G' ∧ Moved w w' G G' := by
  rcases Tq.doo_ok hd with ⟨h1, _⟩ | ⟨_, hg, hp, hc⟩
  · exact absurd he h1
  have hd1 := (Tq.good_zero hg).2.1
  rcases hc with ⟨hk, hn, hl, rfl⟩ | ⟨hk, ⟨n, hn⟩, rfl⟩ | ⟨hk, n, hn, rfl⟩ | ⟨hk, rfl⟩
  · exact change_make11 o z x ra rk rc h hf h6 hS hk hd1 hp hn hl
  · exact change_gone11 o z x n ra rk rc h hf h6 hS hk hp hn
  · exact change_set11 o z x n ra rk rc h hf hS hk hd1 hp hn
  · refine (change_none11 o z x ra rk rc h hS hk).mono ?_
    rintro e w' ⟨rfl, h1, h2⟩
    exact ⟨rfl, G, ⟨_, _, _, _, h1⟩, h2⟩

set_option maxRecDepth 20000 in
set_option maxHeartbeats 4000000 in
theorem do_any11 (o : O) (s z : Int) (h : TkU w q t G m D P V) (hf : Fine11 t) (h6 : ∀ k, G k → 6 ≤ k) (hS : Pa.Std w) (ho : OFit o) :
    Calls Tryz.prog 133 #[dptr q, ov o, .int .i64 s, .int .i64 z] w fun e w' => ∃ F' u, e = .returned (rv (Tq.doo t o s z).1 u) ∧ Sq w' u (Tq.doo t o s z).1.names ∧ ((Tq.doo t o s z).1.names ≠ [] → Off11 F' u) ∧ LTk w' q (Tq.doo t o s z).2 F' ∧ Moved w w' G F' ∧ ∀ k, u.ownBlock = some k → w.heap.size ≤ k := by
  have HFR : Hid (Fr11 w ((w.alloc (.cells #[.int .i64 o.kind, .string o.path, .string o.data, .int .i64 o.ver, .int .i64 o.flags] 30)).alloc (.cells #[.int .i64 0, .string ⟨#[]⟩, .string ⟨#[]⟩, .slice none 0 0, .int .i64 0, .int .i64 0, .int .i64 0, .int .i64 0, .int .i64 0, .int .i64 0, .int .i64 0] 75)) w.heap.size (w.heap.size + 1) o) := Fr11.made w o
  have HD : Hid (TkU ((w.alloc (.cells #[.int .i64 o.kind, .string o.path, .string o.data, .int .i64 o.ver, .int .i64 o.flags] 30)).alloc (.cells #[.int .i64 0, .string ⟨#[]⟩, .string ⟨#[]⟩, .slice none 0 0, .int .i64 0, .int .i64 0, .int .i64 0, .int .i64 0, .int .i64 0, .int .i64 0, .int .i64 0] 75)) q t G m D P V ∧ Pa.Std ((w.alloc (.cells #[.int .i64 o.kind, .string o.path, .string o.data, .int .i64 o.ver, .int .i64 o.flags] 30)).alloc (.cells #[.int .i64 0, .string ⟨#[]⟩, .string ⟨#[]⟩, .slice none 0 0, .int .i64 0, .int .i64 0, .int .i64 0, .int .i64 0, .int .i64 0, .int .i64 0, .int .i64 0] 75))) := ⟨h.below HFR.out.below, hS.below HFR.out.below⟩
  have HS : Hid (Fine11 t ∧ OFit o ∧ (∀ k, G k → 6 ≤ k) ∧ ∀ k, G k → k < w.heap.size) := ⟨hf, ho, h6, h.glt⟩
  obtain ⟨b, hbw⟩ : ∃ b, b = w.heap.size := ⟨_, rfl⟩
  obtain ⟨r, hrw⟩ : ∃ r, r = w.heap.size + 1 := ⟨_, rfl⟩
  rw [← hrw, ← hbw] at HFR
  obtain ⟨x, t', hxt⟩ : ∃ x t', Tq.doo t o s z = (x, t') := ⟨_, _, rfl⟩
  rw [hxt]
  have HTR : Hid (∀ w, TkU w q t G m D P V → Pa.Std w → Calls Tryz.prog 39 #[dptr q, ov o, .int .i64 s, .int .i64 z] w fun e w' => ∃ u, e = .returned (rv x u) ∧ Sq w' u x.names ∧ (∀ k, u.ownBlock = some k → w.heap.size ≤ k) ∧ Below w.heap.size w w') := fun w h hS => by
    have key := try_any11 o s z h hf hS ho
    rw [hxt] at key
    exact key
  have HCH : Hid (∀ w (ra : Option Addr) (rk rc : Nat), TkU w q t G m D P V → Pa.Std w → x.err = 0 → Calls Tryz.prog 162 #[dptr q, ov o, .int .i64 z, rv x (.slice ra rk rc)] w fun e w' => e = .returned (.tuple #[]) ∧ ∃ G', LTk w' q t' G' ∧ Moved w w' G G') := fun w ra rk rc h hS he => change_any11 o s z x ra rk rc h hf h6 hS hxt he
  have HX : Hid (x.err ≠ 0 → t' = t) := fun he => (Tq.doo_ok hxt).elim (fun h => h.2) (fun h => absurd h.1 he)
  clear h hS hf ho h6 hxt
  unfold ov at HTR
  unfold ov rv at HCH
  unfold ov
  go_enter Tryz.func133, Tryz.ntmps133
  go_wp2_with fail
  rw [← hrw, ← hbw]
  clear hrw hbw
  generalize ((w.alloc (.cells #[.int .i64 o.kind, .string o.path, .string o.data, .int .i64 o.ver, .int .i64 o.flags] 30)).alloc (.cells #[.int .i64 0, .string ⟨#[]⟩, .string ⟨#[]⟩, .slice none 0 0, .int .i64 0, .int .i64 0, .int .i64 0, .int .i64 0, .int .i64 0, .int .i64 0, .int .i64 0] 75)) = w0 at *
  refine (HTR.out w0 HD.out.1 HD.out.2).mono ?_
  rintro e w1 ⟨u, rfl, hsq, hnw, hb⟩
  obtain ⟨ra, rk, rc, hu, hj⟩ := hsq
  have H1 : Hid (Fr11 w w1 b r o ∧ TkU w1 q t G m D P V ∧ Pa.Std w1 ∧ Sq w1 (.slice ra rk rc) x.names ∧ (∀ k, (Value.slice ra rk rc).ownBlock = some k → w0.heap.size ≤ k) ∧ r < w0.heap.size) := ⟨HFR.out.later hb, HD.out.1.below hb, HD.out.2.below hb, ⟨_, _, _, rfl, hj⟩, by rw [← hu]; exact hnw, HFR.out.res.lt⟩
  subst hu
  clear hj hnw hb HD HFR
  obtain ⟨rr, hrr⟩ : ∃ rr, rr = w1.heap.size := ⟨_, rfl⟩
  have H2 : Hid (Fr11 w (w1.alloc (.cells #[.int .i64 x.err, .string x.path, .string x.data, .slice ra rk rc, .int .i64 x.made, .int .i64 x.changed, .int .i64 x.ver, .int .i64 x.kids, .int .i64 x.owner, .int .i64 x.len, .int .i64 x.cnt] 75)) b r o ∧ TkU (w1.alloc (.cells #[.int .i64 x.err, .string x.path, .string x.data, .slice ra rk rc, .int .i64 x.made, .int .i64 x.changed, .int .i64 x.ver, .int .i64 x.kids, .int .i64 x.owner, .int .i64 x.len, .int .i64 x.cnt] 75)) q t G m D P V ∧ Pa.Std (w1.alloc (.cells #[.int .i64 x.err, .string x.path, .string x.data, .slice ra rk rc, .int .i64 x.made, .int .i64 x.changed, .int .i64 x.ver, .int .i64 x.kids, .int .i64 x.owner, .int .i64 x.len, .int .i64 x.cnt] 75)) ∧ Sq (w1.alloc (.cells #[.int .i64 x.err, .string x.path, .string x.data, .slice ra rk rc, .int .i64 x.made, .int .i64 x.changed, .int .i64 x.ver, .int .i64 x.kids, .int .i64 x.owner, .int .i64 x.len, .int .i64 x.cnt] 75)) (.slice ra rk rc) x.names ∧ (∀ k, (Value.slice ra rk rc).ownBlock = some k → w0.heap.size ≤ k) ∧ r < w0.heap.size ∧ Cb (w1.alloc (.cells #[.int .i64 x.err, .string x.path, .string x.data, .slice ra rk rc, .int .i64 x.made, .int .i64 x.changed, .int .i64 x.ver, .int .i64 x.kids, .int .i64 x.owner, .int .i64 x.len, .int .i64 x.cnt] 75)) rr (xc x (.slice ra rk rc)) 75 ∧ r < rr) := by
    have hba := (Below.refl _ w1).alloc (Nat.le_refl _) (.cells (xc x (.slice ra rk rc)).toArray 75)
    exact ⟨H1.out.1.later hba, H1.out.2.1.below hba, H1.out.2.2.1.below hba, H1.out.2.2.2.1.below hba, H1.out.2.2.2.2.1, H1.out.2.2.2.2.2, by rw [hrr]; exact Cb.made w1 _ _, by rw [hrr]; exact H1.out.1.res.lt⟩
  unfold rv
  go_upto_region 2 with fail
  rw [← hrr]
  clear hrr H1
  generalize (w1.alloc (.cells #[.int .i64 x.err, .string x.path, .string x.data, .slice ra rk rc, .int .i64 x.made, .int .i64 x.changed, .int .i64 x.ver, .int .i64 x.kids, .int .i64 x.owner, .int .i64 x.len, .int .i64 x.cnt] 75)) = w2 at *
  have e0 : w2.cell? ⟨rr, 0, none⟩ = some (.int .i64 x.err) := H2.out.2.2.2.2.2.2.1.cell 0
  by_cases he : x.err = 0
  · have hkb : (x.err == 0) = true := by simp [he]
    have HE : Hid (x.err = 0) := he
    clear he
    obtain ⟨c0, c1, c2, c3, c4⟩ := H2.out.1.op.all
    go_wp2_with (refine wpList_load_row rfl 75 _ rfl rr rfl 75 #[.int .i64 x.err, .string x.path, .string x.data, .slice ra rk rc, .int .i64 x.made, .int .i64 x.changed, .int .i64 x.ver, .int .i64 x.kids, .int .i64 x.owner, .int .i64 x.len, .int .i64 x.cnt] (0, 0) _ H2.out.2.2.2.2.2.2.1 Tryz.underlying75 rfl (by kernel_rfl) ?_)
    refine (HCH.out w2 ra rk rc H2.out.2.1 H2.out.2.2.1 HE.out).mono ?_
    rintro e w3 ⟨rfl, G', hL, hmv⟩
    have hrn : ∀ k, w.heap.size ≤ k → ¬ G k := fun k hk e => by have := HS.out.2.2.2 k e; omega
    have H3 : Hid (Cb w3 r (xc (Tq.fail 0) (.slice none 0 0)) 75 ∧ Cb w3 rr (xc x (.slice ra rk rc)) 75 ∧ LTk w3 q t' G' ∧ Moved w2 w3 G G') := by
      have h1 := H2.out.1.ne
      have h2 := H2.out.1.hi
      have h3 := H2.out.2.2.2.2.2.2.2
      exact ⟨H2.out.1.res.keep (hmv.block r H2.out.1.res.lt (hrn r (by omega))), H2.out.2.2.2.2.2.2.1.keep (hmv.block rr H2.out.2.2.2.2.2.2.1.lt (hrn rr (by omega))), hL, hmv⟩
    clear hL hmv hrn c0 c1 c2 c3 c4 e0
    go_wp2_with (first
      | (refine wpList_load_row rfl 75 _ rfl rr rfl 75 #[.int .i64 x.err, .string x.path, .string x.data, .slice ra rk rc, .int .i64 x.made, .int .i64 x.changed, .int .i64 x.ver, .int .i64 x.kids, .int .i64 x.owner, .int .i64 x.len, .int .i64 x.cnt] (0, 0) _ H3.out.2.1 Tryz.underlying75 rfl (by kernel_rfl) ?_)
      | (refine wpList_store_row rfl 75 _ _ rfl r (xc x (.slice ra rk rc)).toArray rfl rfl 75 _ H3.out.1 (by kernel_rfl) rfl (by kernel_rfl) ?_))
    have H9 := do_fin H2.out.1 H3.out.2.2.1 H3.out.2.2.2 HS.out.2.2.2 H2.out.2.2.2.1 (fun k hk => by have := H2.out.2.2.2.2.1 k hk; have := H2.out.2.2.2.2.2.1; omega) (xc x (.slice ra rk rc)).toArray
    refine bodyPost_ret (v := .agg (xc x (.slice ra rk rc)).toArray) ?_ rfl ⟨G', _, rfl, H9.1, H9.2.1, H9.2.2.1, H9.2.2.2, fun k hk => by have h1 := H2.out.1.ne; have h2 := H2.out.1.hi; have h3 := H2.out.2.2.2.2.1 k hk; have h4 := H2.out.2.2.2.2.2.1; omega⟩
    exact results_cell_row rfl _ _ r 75 _ (0, 0) _ rfl (H3.out.1.rowed (xc x (.slice ra rk rc))) Tryz.underlying75 rfl (by kernel_rfl)
  · have hkb : (x.err == 0) = false := by simp [he]
    have HE : Hid (t' = t) := HX.out he
    clear he
    go_wp2_with (first
      | (refine wpList_load_row rfl 75 _ rfl rr rfl 75 #[.int .i64 x.err, .string x.path, .string x.data, .slice ra rk rc, .int .i64 x.made, .int .i64 x.changed, .int .i64 x.ver, .int .i64 x.kids, .int .i64 x.owner, .int .i64 x.len, .int .i64 x.cnt] (0, 0) _ H2.out.2.2.2.2.2.2.1 Tryz.underlying75 rfl (by kernel_rfl) ?_)
      | (refine wpList_store_row rfl 75 _ _ rfl r (xc x (.slice ra rk rc)).toArray rfl rfl 75 _ H2.out.1.res (by kernel_rfl) rfl (by kernel_rfl) ?_))
    have H9 := do_fin (t' := t') (G' := G) H2.out.1 (by rw [HE.out]; exact ⟨_, _, _, _, H2.out.2.1⟩) (Moved.refl w2 G) HS.out.2.2.2 H2.out.2.2.2.1 (fun k hk => by have := H2.out.2.2.2.2.1 k hk; have := H2.out.2.2.2.2.2.1; omega) (xc x (.slice ra rk rc)).toArray
    refine bodyPost_ret (v := .agg (xc x (.slice ra rk rc)).toArray) ?_ rfl ⟨G, _, rfl, H9.1, H9.2.1, H9.2.2.1, H9.2.2.2, fun k hk => by have h1 := H2.out.1.ne; have h2 := H2.out.1.hi; have h3 := H2.out.2.2.2.2.1 k hk; have h4 := H2.out.2.2.2.2.2.1; omega⟩
    exact results_cell_row rfl _ _ r 75 _ (0, 0) _ rfl (H2.out.1.res.rowed (xc x (.slice ra rk rc))) Tryz.underlying75 rfl (by kernel_rfl)
end
end Go.Proofs.YtboejbjobjhajaaGreatDoor
namespace Go.Proofs.YtboejbjobjhajaaGreatDoor
open Go.RowKit
theorem results_cell_tmp11 {P : Program} {fn : Func} {p s : Tmp} {ty : TypeId} (h : fn.results = #[.cell p ty, .tmp s]) (tmps : Array Value) (w : World) (g : Nat) (t : TypeId) (cs : Array Value) (fr : Nat × Nat) (d : TypeDesc)
    (hp : tmps.getD p undef = .pointer (some ⟨g, 0, none⟩)) (hg : w.heap[g]? = some (.cells cs t fr))
    (hu : P.underlying ty = some d) (hd : (match d with | .struct _ | .array _ _ => true | _ => false) = true) (hi : (P.info? ty).map (·.size) = some cs.size) :
    (results fn tmps).run P w = .ok (.tuple #[.agg cs, tmps.getD s undef]) w := by
  have hp' : tmps[p]?.getD undef = .pointer (some ⟨g, 0, none⟩) := by simpa using hp
  simp [results, h, hp', asAddr, run_loadVar_row w g t ty cs fr d hg hu hd hi]
section
variable {w : World}
set_option maxRecDepth 20000 in
set_option maxHeartbeats 4000000 in
theorem twin_any11 (p : Nat) (n : Kq.Kn) (v : Value) (h : Own11 w p n v) (hm : n.names.length ≤ 3000) :
    Calls Tryz.prog 95 #[dptr p] w fun e w' => ∃ a c, e = .returned (dptr w.heap.size) ∧ Own11 w' w.heap.size n (.slice a n.names.length c) ∧ w'.ownsRow (w.heap.size + 1) 9 1 (.slice a n.names.length c) n.names.length (sc n.names) ∧ Below w.heap.size w w' := by
  obtain ⟨va, vc, rfl, _, hj⟩ := row_form h.row
  clear hj
  obtain ⟨b, hb0⟩ : ∃ b, b = w.heap.size := ⟨_, rfl⟩
  have H0 : Hid (Own11 w p n (.slice va n.names.length vc)) := h
  have H1 : Hid (Own11 (w.alloc (.cells #[.int .i64 n.made, .int .i64 n.changed, .int .i64 n.ver, .int .i64 n.kids, .int .i64 n.owner, .int .i64 n.len, .int .i64 n.cnt, .string n.data, .int .i64 n.next, (.slice va n.names.length vc)] 175)) p n (.slice va n.names.length vc) ∧ Cb (w.alloc (.cells #[.int .i64 n.made, .int .i64 n.changed, .int .i64 n.ver, .int .i64 n.kids, .int .i64 n.owner, .int .i64 n.len, .int .i64 n.cnt, .string n.data, .int .i64 n.next, (.slice va n.names.length vc)] 175)) b (k10 n (.slice va n.names.length vc)) 175 ∧ Below w.heap.size w (w.alloc (.cells #[.int .i64 n.made, .int .i64 n.changed, .int .i64 n.ver, .int .i64 n.kids, .int .i64 n.owner, .int .i64 n.len, .int .i64 n.cnt, .string n.data, .int .i64 n.next, (.slice va n.names.length vc)] 175)) ∧ (w.alloc (.cells #[.int .i64 n.made, .int .i64 n.changed, .int .i64 n.ver, .int .i64 n.kids, .int .i64 n.owner, .int .i64 n.len, .int .i64 n.cnt, .string n.data, .int .i64 n.next, (.slice va n.names.length vc)] 175)).heap.size = b + 1 ∧ n.names.length ≤ 3000) := by
    have hba := (Below.refl _ w).alloc (Nat.le_refl _) (.cells (k10 n (.slice va n.names.length vc)).toArray 175)
    exact ⟨h.keep (fun k hk => hba.block k (h.flt hk)), by rw [hb0]; exact Cb.made w _ _, hba, by rw [hb0]; exact World.size_alloc _ _, hm⟩
  have HB : Hid (b = w.heap.size) := hb0
  rw [← hb0]
  clear h hm
  go_enter Tryz.func95, Tryz.ntmps95
  go_upto_region 2 with (refine wpList_load_row rfl 175 _ rfl p rfl 175 #[.int .i64 n.made, .int .i64 n.changed, .int .i64 n.ver, .int .i64 n.kids, .int .i64 n.owner, .int .i64 n.len, .int .i64 n.cnt, .string n.data, .int .i64 n.next, (.slice va n.names.length vc)] (0, 0) _ H0.out.blk Tryz.underlying175 rfl (by kernel_rfl) ?_)
  rw [← hb0]
  clear hb0 H0
  generalize (w.alloc (.cells #[.int .i64 n.made, .int .i64 n.changed, .int .i64 n.ver, .int .i64 n.kids, .int .i64 n.owner, .int .i64 n.len, .int .i64 n.cnt, .string n.data, .int .i64 n.next, (.slice va n.names.length vc)] 175)) = w1 at *
  have n9 : w1.cell? ⟨p, 9, none⟩ = some (.slice va n.names.length vc) := H1.out.1.blk.cell 9
  go_wp2_with fail
  refine (clone_any11 _ n.names w1 (Nm.of_row H1.out.1.row) H1.out.2.2.2.2).mono ?_
  rintro e w2 ⟨a, c, rfl, hrow, hb⟩
  have H2 : Hid (Cb w2 b (k10 n (.slice va n.names.length vc)) 175 ∧ w2.ownsRow (b + 1) 9 1 (.slice a n.names.length c) n.names.length (sc n.names) ∧ Below w.heap.size w w2 ∧ Kq.Rises n.names) := ⟨H1.out.2.1.below hb, by rw [← H1.out.2.2.2.1]; exact hrow, H1.out.2.2.1.trans (hb.mono H1.out.2.2.1.size), H1.out.1.rises⟩
  clear hrow hb n9 H1
  have b9 : w2.cell? ⟨b, 9, none⟩ = some (.slice va n.names.length vc) := H2.out.1.cell 9
  have f9 := H2.out.1.free 9
  go_wp2
  go_ret
  have hrs : (w2.setCell ⟨b, 9, none⟩ (.slice a n.names.length c)).ownsRow (b + 1) 9 1 (.slice a n.names.length c) n.names.length (sc n.names) := row_stays H2.out.2.1 (fun k hk => (grownBy_setCell w2 ⟨b, 9, none⟩ _).block k (H2.out.2.1.lt k hk).2 (by have := (H2.out.2.1.lt k hk).1; simp; omega))
  refine ⟨a, c, rfl, ⟨H2.out.1.set 9 _, hrs.mono (Nat.zero_le _), H2.out.2.2.2⟩, hrs, (H2.out.2.2.1.grown (grownBy_setCell w2 ⟨b, 9, none⟩ _) H2.out.2.2.1.size (fun k hk => by have := HB.out; simp at hk; omega)).mono (Nat.le_of_eq HB.out)⟩
end
section
variable {w : World} {q m : Nat} {t : Tq.Tr} {G : Nat → Prop} {D : DataW Nat} {P : ByteArray → Nat} {V : ByteArray → Value}
set_option maxRecDepth 20000 in
set_option maxHeartbeats 4000000 in
theorem node_any11 (p : ByteArray) (h : TkU w q t G m D P V) (hf : Fine11 t) (hp : p.size ≤ maxLen) :
    Calls Tryz.prog 82 #[dptr q, .string p] w fun e w' => NodeP t p G e w' ∧ TkU w' q t G m D P V ∧ Below w.heap.size w w' := by
  obtain ⟨r, hr0⟩ : ∃ r, r = w.heap.size := ⟨_, rfl⟩
  have H0 : Hid (TkU (w.alloc (.cells #[.int .i64 0, .int .i64 0, .int .i64 0, .int .i64 0, .int .i64 0, .int .i64 0, .int .i64 0, .string ⟨#[]⟩, .int .i64 0, .slice none 0 0] 146)) q t G m D P V ∧ Cb (w.alloc (.cells #[.int .i64 0, .int .i64 0, .int .i64 0, .int .i64 0, .int .i64 0, .int .i64 0, .int .i64 0, .string ⟨#[]⟩, .int .i64 0, .slice none 0 0] 146)) r (k10 Kq.zero (.slice none 0 0)) 146 ∧ Below w.heap.size w (w.alloc (.cells #[.int .i64 0, .int .i64 0, .int .i64 0, .int .i64 0, .int .i64 0, .int .i64 0, .int .i64 0, .string ⟨#[]⟩, .int .i64 0, .slice none 0 0] 146)) ∧ r = w.heap.size ∧ ∀ k, G k → k < w.heap.size) := by
    have hba := (Below.refl _ w).alloc (Nat.le_refl _) (.cells (k10 Kq.zero (.slice none 0 0)).toArray 146)
    exact ⟨h.below hba, by rw [hr0]; exact Cb.made w _ _, hba, hr0, h.glt⟩
  cases hn : Tq.find t.l p with
  | none =>
    have hlk : ∀ w, TkU w q t G m D P V → (Instr.lookup 111 (.map (some m)) (.string p) true).run Tryz.prog w = .ok (.tuple #[.pointer none, .bool false]) w := fun w h => h.look_no hp hn
    have HN : Hid (Tq.find t.l p = none) := hn
    have c0 : (w.alloc (.cells #[.int .i64 0, .int .i64 0, .int .i64 0, .int .i64 0, .int .i64 0, .int .i64 0, .int .i64 0, .string ⟨#[]⟩, .int .i64 0, .slice none 0 0] 146)).cell? ⟨q, 0, none⟩ = some (.map (some m)) := H0.out.1.blk.cell 0
    have hlk0 := hlk _ H0.out.1
    clear hn h hf hlk hp
    go_enter Tryz.func82, Tryz.ntmps82
    go_upto_region 1 with fail
    rw [← hr0]
    clear hr0
    generalize (w.alloc (.cells #[.int .i64 0, .int .i64 0, .int .i64 0, .int .i64 0, .int .i64 0, .int .i64 0, .int .i64 0, .string ⟨#[]⟩, .int .i64 0, .slice none 0 0] 146)) = w0 at *
    go_wp2_with (refine wpList_store_row rfl 146 _ _ rfl r (k10 Kq.zero (.slice none 0 0)).toArray rfl rfl 146 _ H0.out.2.1 (by kernel_rfl) rfl (by kernel_rfl) ?_)
    clear hlk0 c0
    refine bodyPost_ret (v := .tuple #[.agg (k10 Kq.zero (.slice none 0 0)).toArray, .bool false]) ?_ rfl ⟨⟨fun n hn => (by rw [HN.out] at hn; cases hn), fun _ => ⟨none, 0, rfl⟩⟩, H0.out.1.keep (fun k hk => setRow_other w0 r k _ (by have := H0.out.2.2.2.2 k hk; have := H0.out.2.2.2.1; omega)), rowed_below H0.out.2.2.1 (Nat.le_refl _) (by rw [H0.out.2.2.2.1]; exact Nat.le_refl _) _⟩
    exact (results_cell_tmp11 (p := 4) (s := 5) rfl _ _ r 146 _ (0, 0) _ rfl (H0.out.2.1.rowed (k10 Kq.zero (.slice none 0 0))) Tryz.underlying146 rfl (by kernel_rfl)).trans rfl
  | some n =>
    obtain ⟨pb, hpb⟩ : ∃ pb, pb = P p := ⟨_, rfl⟩
    have hlk0 := H0.out.1.look_yes hp hn
    rw [← hpb] at hlk0
    have HN : Hid (Tq.find t.l p = some n ∧ pb = P p ∧ Node11 n) := ⟨hn, hpb, Tq.find_node hf hn⟩
    have c0 : (w.alloc (.cells #[.int .i64 0, .int .i64 0, .int .i64 0, .int .i64 0, .int .i64 0, .int .i64 0, .int .i64 0, .string ⟨#[]⟩, .int .i64 0, .slice none 0 0] 146)).cell? ⟨q, 0, none⟩ = some (.map (some m)) := H0.out.1.blk.cell 0
    clear hn h hf hp hpb
    go_enter Tryz.func82, Tryz.ntmps82
    go_upto_region 1 with fail
    rw [← hr0]
    clear hr0
    generalize (w.alloc (.cells #[.int .i64 0, .int .i64 0, .int .i64 0, .int .i64 0, .int .i64 0, .int .i64 0, .int .i64 0, .string ⟨#[]⟩, .int .i64 0, .slice none 0 0] 146)) = w0 at *
    go_wp2_with fail
    clear hlk0 c0
    refine (twin_any11 pb n (V p) (by rw [HN.out.2.1]; exact H0.out.1.node _ (Tq.find_some HN.out.1)) (by have := HN.out.2.2.many; omega)).mono ?_
    rintro e w1 ⟨a, c, rfl, hO, hrow, hb⟩
    have H1 : Hid (TkU w1 q t G m D P V ∧ Cb w1 r (k10 Kq.zero (.slice none 0 0)) 146 ∧ Below w.heap.size w w1 ∧ Own11 w1 w0.heap.size n (.slice a n.names.length c) ∧ w1.ownsRow (w0.heap.size + 1) 9 1 (.slice a n.names.length c) n.names.length (sc n.names) ∧ r < w0.heap.size) := ⟨H0.out.1.below hb, H0.out.2.1.below hb, H0.out.2.2.1.trans (hb.mono H0.out.2.2.1.size), hO, hrow, H0.out.2.1.lt⟩
    have HR : Hid (r = w.heap.size ∧ ∀ k, G k → k < w.heap.size) := H0.out.2.2.2
    clear hO hrow hb H0
    obtain ⟨tb, htb⟩ : ∃ tb, tb = w0.heap.size := ⟨_, rfl⟩
    rw [← htb] at H1
    rw [← htb]
    clear htb
    go_wp2_with (first
      | (refine wpList_load_row rfl 146 _ rfl tb rfl 175 #[.int .i64 n.made, .int .i64 n.changed, .int .i64 n.ver, .int .i64 n.kids, .int .i64 n.owner, .int .i64 n.len, .int .i64 n.cnt, .string n.data, .int .i64 n.next, .slice a n.names.length c] (0, 0) _ H1.out.2.2.2.1.blk Tryz.underlying146 rfl (by kernel_rfl) ?_)
      | (refine wpList_store_row rfl 146 _ _ rfl r (k10 n (.slice a n.names.length c)).toArray rfl rfl 146 _ H1.out.2.1 (by kernel_rfl) rfl (by kernel_rfl) ?_))
    have hrs : (w1.setRow r (k10 n (.slice a n.names.length c)).toArray).ownsRow (tb + 1) 9 1 (.slice a n.names.length c) n.names.length (sc n.names) := row_stays H1.out.2.2.2.2.1 (fun k hk => setRow_other w1 r k _ (by have := (H1.out.2.2.2.2.1.lt k hk).1; have := H1.out.2.2.2.2.2; omega))
    refine bodyPost_ret (v := .tuple #[.agg (k10 n (.slice a n.names.length c)).toArray, .bool true]) ?_ rfl ⟨⟨fun n' hn => ?_, fun hn => (by rw [HN.out.1] at hn; cases hn)⟩, H1.out.1.keep (fun k hk => setRow_other w1 r k _ (by have := HR.out.2 k hk; have := HR.out.1; omega)), rowed_below H1.out.2.2.1 (Nat.le_refl _) (by rw [HR.out.1]; exact Nat.le_refl _) _⟩
    · exact (results_cell_tmp11 (p := 4) (s := 5) rfl _ _ r 146 _ (0, 0) _ rfl (H1.out.2.1.rowed (k10 n (.slice a n.names.length c))) Tryz.underlying146 rfl (by kernel_rfl)).trans rfl
    · rw [HN.out.1] at hn
      obtain rfl := Option.some.inj hn
      exact ⟨_, rfl, sq_of_row hrs, fun _ k hk e => by have := (hrs.lt k hk).1; have := HR.out.2 k e; have := H1.out.2.2.2.2.2; have := HR.out.1; omega⟩
end
end Go.Proofs.YtboejbjobjhajaaGreatDoor
