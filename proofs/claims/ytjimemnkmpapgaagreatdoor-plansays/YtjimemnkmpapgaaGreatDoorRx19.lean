/- What the reference's Ops answers. What the reference's Results answers, of lists that fit. -/
import Derived.Test.YtjimemnkmpapgaaGreatDoorRMk19
import Derived.Test.YtjimemnkmpapgaaGreatDoorWr19
namespace Go.Proofs.YtjimemnkmpapgaaGreatDoor
open Go.RowKit

def Pn.upto (os : List O) (l : List Int) (i0 k : Nat) : List O := if i0 < k then Pn.opsAt os l else []
set_option maxRecDepth 20000 in
set_option maxHeartbeats 8000000 in
theorem refOps_any19 (p : Pn.St) (u a b : Value) (i0 : Nat) (z : Int) (l0 : List Int) (w : World) (h : Pv w p u a b) (ok : Pn.Ok p) (hz : p.sh[i0]? = some z) (hl0 : p.pl[i0]? = some l0) :
    Calls Tryz.prog 21 #[pv p u a b, .int .i64 z] w fun e w' => ∃ v, e = .returned v ∧ Ol w' v (Pn.opsAt p.os l0) ∧ Below w.heap.size w w' := by
  obtain ⟨⟨ux, uc, rfl⟩, ⟨ax, ac, rfl⟩, ⟨bx, bc, rfl⟩⟩ := h.forms
  obtain ⟨NO, hNO⟩ : ∃ N, N = p.os.length := ⟨_, rfl⟩
  obtain ⟨NS, hNS⟩ : ∃ N, N = p.sh.length := ⟨_, rfl⟩
  obtain ⟨NP, hNP⟩ : ∃ N, N = p.pl.length := ⟨_, rfl⟩
  rw [← hNO, ← hNS, ← hNP] at h
  rw [← hNO, ← hNS, ← hNP]
  have H : Hid (Pv w p (.slice ux NO uc) (.slice ax NS ac) (.slice bx NP bc) ∧ Pn.Ok p ∧ NO = p.os.length ∧ NS = p.sh.length ∧ NP = p.pl.length ∧ NS = NP ∧ NS ≤ 4) := ⟨h, ok, hNO, hNS, hNP, by rw [hNS, hNP]; exact ok.len, by rw [hNS]; exact ok.few⟩
  have HZ : Hid (p.sh[i0]? = some z ∧ p.pl[i0]? = some l0 ∧ i0 < NS) := ⟨hz, hl0, by rw [hNS]; exact (List.getElem?_eq_some_iff.1 hz).1⟩
  clear h ok hNO hNS hNP hz hl0
  unfold pv
  obtain ⟨q, hq⟩ : ∃ q, q = w.heap.size := ⟨_, rfl⟩
  have H0 : Hid (Below w.heap.size w (w.alloc (.cells #[.int .i64 p.s, .int .i64 p.n, .slice ux NO uc, .slice ax NS ac, .slice bx NP bc] 57)) ∧ Cb (w.alloc (.cells #[.int .i64 p.s, .int .i64 p.n, .slice ux NO uc, .slice ax NS ac, .slice bx NP bc] 57)) q [.int .i64 p.s, .int .i64 p.n, .slice ux NO uc, .slice ax NS ac, .slice bx NP bc] 57) := by
    rw [hq]
    exact ⟨(Below.refl _ w).alloc (Nat.le_refl _) _, Cb.made w [.int .i64 p.s, .int .i64 p.n, .slice ux NO uc, .slice ax NS ac, .slice bx NP bc] _⟩
  go_enter Tryz.func21, Tryz.ntmps21
  go_wp2
  rw [← hq]
  clear hq
  generalize (w.alloc (.cells #[.int .i64 p.s, .int .i64 p.n, .slice ux NO uc, .slice ax NS ac, .slice bx NP bc] 57)) = w0 at *
  go_loopw [5, 6] (fun v i wx => ∃ k : Nat, k ≤ NS ∧ i = .int .i64 (k : Int) ∧ wx.ownsRow w0.heap.size 38 5 v (Pn.upto p.os l0 i0 k).length (KO.cs (Pn.upto p.os l0 i0 k)) ∧ Below w0.heap.size w0 wx) (fun _ i _ => NS - (intOf i).toNat)
  case atStart => exact ⟨0, Nat.zero_le _, rfl, World.ownsRow_nil _ _ _ _, Below.refl _ _⟩
  case round =>
    obtain ⟨k, hk, rfl, hr, hb⟩ := hrel
    have HW : Hid (wr.ownsRow w0.heap.size 38 5 u5 (Pn.upto p.os l0 i0 k).length (KO.cs (Pn.upto p.os l0 i0 k)) ∧ Below w0.heap.size w0 wr ∧ Below w.heap.size w wr ∧ Cb wr q [.int .i64 p.s, .int .i64 p.n, .slice ux NO uc, .slice ax NS ac, .slice bx NP bc] 57) := ⟨hr, hb, H0.out.1.trans (hb.mono H0.out.1.size), H0.out.2.below hb⟩
    clear hr hb
    have q3 : wr.cell? ⟨q, 3, none⟩ = some (.slice ax NS ac) := HW.out.2.2.2.cell 3
    by_cases hlt : k < NS
    · have hlt' : (k : Int) < (NS : Int) := by omega
      have hk0 : (0 : Int) ≤ (k : Int) := by omega
      have hkp : (k : Int) < (NP : Int) := by have := H.out.2.2.2.2.2.1; omega
      have hwk : IntKind.wrap .i64 ((k : Int) + 1) = (k : Int) + 1 := by rw [IntKind.wrap_i64]; have := H.out.2.2.2.2.2.2; omega
      obtain ⟨zk, hzk⟩ : ∃ zk, p.sh[k]? = some zk := ⟨p.sh[k]'(by have := H.out.2.2.2.1; omega), List.getElem?_eq_getElem _⟩
      obtain ⟨l, hl⟩ : ∃ l, p.pl[k]? = some l := ⟨p.pl[k]'(by have := H.out.2.2.2.2.1; omega), List.getElem?_eq_getElem _⟩
      have HL : Hid (l ≠ [] ∧ l.length ≤ 16 ∧ (∀ y ∈ l, 0 ≤ y ∧ y < (NO : Int)) ∧ p.sh[k]? = some zk ∧ p.pl[k]? = some l) := by
        have hm := List.mem_of_getElem? hl
        exact ⟨H.out.2.1.ne l hm, H.out.2.1.plen hm, by rw [H.out.2.2.1]; exact H.out.2.1.rng l hm, hzk, hl⟩
      obtain ⟨ga, oa, rfl, hca⟩ := (H.out.1.below H0.out.1).sh.at hzk
      obtain ⟨gb, ob, y, rfl, hcy, hya⟩ := (H.out.1.below H0.out.1).at hl
      obtain ⟨lx, lc, rfl, _, _⟩ := hya.form
      obtain ⟨L, hL⟩ : ∃ L, L = l.length := ⟨_, rfl⟩
      rw [← hL] at hcy hya
      have HC : Hid (∀ w', Below w0.heap.size w0 w' → w'.cell? ⟨ga, oa + k, none⟩ = some (.int .i64 zk) ∧ w'.cell? ⟨gb, ob + k, none⟩ = some (.slice lx L lc) ∧ KI.At w' (.slice lx L lc) l) := fun w' hb => ⟨Below.kept hb (by simpa [KI] using hca 0 _ rfl), Below.kept hb hcy, hya.below hb⟩
      have HLL : Hid (L = l.length ∧ 0 < L ∧ L ≤ 16) := ⟨hL, by have := List.length_pos_iff.2 HL.out.1; omega, by have := HL.out.2.1; omega⟩
      clear hzk hl hca hcy hya hL
      have HU : Hid (if k = i0 then zk = z ∧ l = l0 ∧ Pn.upto p.os l0 i0 k = [] ∧ Pn.upto p.os l0 i0 (k + 1) = Pn.opsAt p.os l else zk ≠ z ∧ Pn.upto p.os l0 i0 (k + 1) = Pn.upto p.os l0 i0 k) := by
        refine (show ite _ _ _ from ?_)
        split
        · rename_i e
          subst e
          have h1 := HL.out.2.2.2.1
          have h2 := HL.out.2.2.2.2
          rw [HZ.out.1] at h1
          rw [HZ.out.2.1] at h2
          have h3 := (Option.some.inj h2).symm
          refine ⟨(Option.some.inj h1).symm, h3, ?_, ?_⟩
          · unfold Pn.upto
            rw [if_neg (by omega)]
          · unfold Pn.upto
            rw [if_pos (by omega), h3]
        · rename_i e
          refine ⟨fun h => e ?_, ?_⟩
          · have h1 := Pn.pos_at H.out.2.1.rise HL.out.2.2.2.1
            have h2 := Pn.pos_at H.out.2.1.rise HZ.out.1
            rw [h, h2] at h1
            omega
          · unfold Pn.upto
            by_cases h : i0 < k
            · rw [if_pos h, if_pos (by omega)]
            · rw [if_neg h, if_neg (by omega)]
      by_cases hki : k = i0
      · have HU2 : Hid (zk = z ∧ l = l0 ∧ Pn.upto p.os l0 i0 k = [] ∧ Pn.upto p.os l0 i0 (k + 1) = Pn.opsAt p.os l) := (show _ ∧ _ by have h := HU.out; rwa [if_pos hki] at h)
        clear HU hki
        have hzz : (zk == z) = true := by rw [HU2.out.1]; simp
        go_wp2
        go_loopw [5, 7] (fun v i wx => ∃ j : Nat, j ≤ L ∧ i = .int .i64 (j : Int) ∧ wx.ownsRow w0.heap.size 38 5 v (Pn.opsAt p.os (l.take j)).length (KO.cs (Pn.opsAt p.os (l.take j))) ∧ Below w0.heap.size w0 wx) (fun _ i _ => L - (intOf i).toNat)
        case atStart =>
          refine ⟨0, Nat.zero_le _, rfl, ?_, HW.out.2.1⟩
          have h := HW.out.1
          rw [HU2.out.2.2.1] at h
          exact h
        case round =>
          clear HW q3
          obtain ⟨j, hj, rfl, hr, hb⟩ := hrel
          have HW : Hid (wr.ownsRow w0.heap.size 38 5 u5 (Pn.opsAt p.os (l.take j)).length (KO.cs (Pn.opsAt p.os (l.take j))) ∧ Below w0.heap.size w0 wr) := ⟨hr, hb⟩
          have c1 := (HC.out wr hb).1
          have c2 := (HC.out wr hb).2.1
          have q3 : wr.cell? ⟨q, 3, none⟩ = some (.slice (some ⟨ga, oa, none⟩) NS ac) := (H0.out.2.below hb).cell 3
          have q4 : wr.cell? ⟨q, 4, none⟩ = some (.slice (some ⟨gb, ob, none⟩) NP bc) := (H0.out.2.below hb).cell 4
          have hj0 : (0 : Int) ≤ (j : Int) := by omega
          have hwj : IntKind.wrap .i64 ((j : Int) + 1) = (j : Int) + 1 := by rw [IntKind.wrap_i64]; have := HLL.out.2.2; omega
          clear hr hb
          by_cases hltj : j < L
          · have hltj' : (j : Int) < (L : Int) := by omega
            obtain ⟨y, hy⟩ : ∃ y, l[j]? = some y := ⟨l[j]'(by have := HLL.out.1; omega), List.getElem?_eq_getElem _⟩
            have hyr := HL.out.2.2.1 y (List.mem_of_getElem? hy)
            obtain ⟨n, rfl⟩ : ∃ n : Nat, y = (n : Int) := ⟨y.toNat, by omega⟩
            have hn0 : (0 : Int) ≤ (n : Int) := hyr.1
            have hn1 : (n : Int) < (NO : Int) := hyr.2
            obtain ⟨o, ho⟩ : ∃ o, p.os[n]? = some o := ⟨p.os[n]'(by have := H.out.2.2.1; omega), List.getElem?_eq_getElem _⟩
            obtain ⟨gl, ol, rfl, _⟩ := (HC.out w0 (Below.refl _ _)).2.2.at hy
            obtain ⟨gu, bu, rfl, hcs⟩ := ((KO.of_ol H.out.1.os).below H0.out.1).at ho
            have HC2 : Hid (∀ w', Below w0.heap.size w0 w' → w'.cell? ⟨gl, ol + j, none⟩ = some (.int .i64 (n : Int)) ∧ w'.cell? ⟨gu, bu + n * 5, none⟩ = some (.int .i64 o.kind) ∧ w'.cell? ⟨gu, bu + n * 5 + 1, none⟩ = some (.string o.path) ∧ w'.cell? ⟨gu, bu + n * 5 + 2, none⟩ = some (.string o.data) ∧ w'.cell? ⟨gu, bu + n * 5 + 3, none⟩ = some (.int .i64 o.ver) ∧ w'.cell? ⟨gu, bu + n * 5 + 4, none⟩ = some (.int .i64 o.flags)) := fun w' hb => by
              refine ⟨?_, Below.kept hb (hcs 0 _ rfl), Below.kept hb (hcs 1 _ rfl), Below.kept hb (hcs 2 _ rfl), Below.kept hb (hcs 3 _ rfl), Below.kept hb (hcs 4 _ rfl)⟩
              have h := (HC.out w' hb).2.2.on hy 0 _ rfl
              simpa [KI] using h
            have HS : Hid (Pn.opsAt p.os (l.take (j + 1)) = Pn.opsAt p.os (l.take j) ++ [o] ∧ (Pn.opsAt p.os (l.take j)).length ≤ 16) := by
              refine ⟨?_, ?_⟩
              · rw [List.take_add_one, hy]
                exact Pn.opsAt_snoc p.os (l.take j) (n : Int) o (by rw [show ((n : Int)).toNat = n by omega]; exact ho)
              · rw [Pn.opsAt_len (fun z hz => by have := HL.out.2.2.1 z (List.mem_of_mem_take hz); have := H.out.2.2.1; omega), List.length_take]
                have := HL.out.2.1
                omega
            clear hy ho hcs hyr
            go_upto_region 8 with fail
            clear c1 c2 q3 q4
            refine wp_region_held_drew (S := fun w' => Below w0.heap.size w0 w') (by kernel_rfl) HW.out.2.drew (fun _ => ?_)
            have H5 : Hid (Below w0.heap.size w0 wr.drew ∧ wr.drew.ownsRow w0.heap.size 38 5 u5 (Pn.opsAt p.os (l.take j)).length (KO.cs (Pn.opsAt p.os (l.take j)))) := ⟨HW.out.2.drew, HW.out.1⟩
            generalize wr.drew = w5 at *
            refine' take_at (i := 0) (d := 34) (v := _) rfl rfl (by kernel_rfl) (by kernel_rfl) (by kernel_rfl) (fun _ _ _ h => h) (Or.inl ⟨by rfl, ?h0⟩) (H5.out.1) ?_
            case h0 =>
              intro w hSw
              have t := H0.out.2.below hSw
              have t2 := t.cell 2
              have t4 := t.cell 4
              have s1 := (HC.out _ hSw).2.1
              obtain ⟨s2, s3, s4, s5, s6, s7⟩ := HC2.out _ hSw
              simp only [List.getElem?_cons_zero, List.getElem?_cons_succ] at t2 t4
              go_simp
              with_reducible rfl
            simp only [List.setIfInBounds_toArray, List.set_cons_zero, List.set_cons_succ]
            refine' take_at (i := 1) (d := 35) (v := _) rfl rfl (by kernel_rfl) (by kernel_rfl) (by kernel_rfl) (fun _ _ _ h => h) (Or.inl ⟨by rfl, ?h1⟩) (H5.out.1) ?_
            case h1 =>
              intro w hSw
              have t := H0.out.2.below hSw
              have t2 := t.cell 2
              have t4 := t.cell 4
              have s1 := (HC.out _ hSw).2.1
              obtain ⟨s2, s3, s4, s5, s6, s7⟩ := HC2.out _ hSw
              simp only [List.getElem?_cons_zero, List.getElem?_cons_succ] at t2 t4
              go_simp
              with_reducible rfl
            simp only [List.setIfInBounds_toArray, List.set_cons_zero, List.set_cons_succ]
            refine' take_at (i := 2) (d := 36) (v := _) rfl rfl (by kernel_rfl) (by kernel_rfl) (by kernel_rfl) (fun _ _ _ h => h) (Or.inl ⟨by rfl, ?h2⟩) (H5.out.1) ?_
            case h2 =>
              intro w hSw
              have t := H0.out.2.below hSw
              have t2 := t.cell 2
              have t4 := t.cell 4
              have s1 := (HC.out _ hSw).2.1
              obtain ⟨s2, s3, s4, s5, s6, s7⟩ := HC2.out _ hSw
              simp only [List.getElem?_cons_zero, List.getElem?_cons_succ] at t2 t4
              go_simp
              with_reducible rfl
            simp only [List.setIfInBounds_toArray, List.set_cons_zero, List.set_cons_succ]
            refine' take_at (i := 3) (d := 37) (v := _) rfl rfl (by kernel_rfl) (by kernel_rfl) (by kernel_rfl) (fun _ _ _ h => h) (Or.inl ⟨by rfl, ?h3⟩) (H5.out.1) ?_
            case h3 =>
              intro w hSw
              have t := H0.out.2.below hSw
              have t2 := t.cell 2
              have t4 := t.cell 4
              have s1 := (HC.out _ hSw).2.1
              obtain ⟨s2, s3, s4, s5, s6, s7⟩ := HC2.out _ hSw
              simp only [List.getElem?_cons_zero, List.getElem?_cons_succ] at t2 t4
              go_simp
              with_reducible rfl
            simp only [List.setIfInBounds_toArray, List.set_cons_zero, List.set_cons_succ]
            refine' take_at (i := 4) (d := 38) (v := _) rfl rfl (by kernel_rfl) (by kernel_rfl) (by kernel_rfl) (fun _ _ _ h => h) (Or.inl ⟨by rfl, ?h4⟩) (H5.out.1) ?_
            case h4 =>
              intro w hSw
              have t := H0.out.2.below hSw
              have t2 := t.cell 2
              have t4 := t.cell 4
              have s1 := (HC.out _ hSw).2.1
              obtain ⟨s2, s3, s4, s5, s6, s7⟩ := HC2.out _ hSw
              simp only [List.getElem?_cons_zero, List.getElem?_cons_succ] at t2 t4
              go_simp
              with_reducible rfl
            simp only [List.setIfInBounds_toArray, List.set_cons_zero, List.set_cons_succ]
            refine' take_at (i := 5) (d := 39) (v := _) rfl rfl (by kernel_rfl) (by kernel_rfl) (by kernel_rfl) (fun _ _ _ h => h) (Or.inl ⟨by rfl, ?h5⟩) (H5.out.1) ?_
            case h5 =>
              intro w hSw
              have t := H0.out.2.below hSw
              have t2 := t.cell 2
              have t4 := t.cell 4
              have s1 := (HC.out _ hSw).2.1
              obtain ⟨s2, s3, s4, s5, s6, s7⟩ := HC2.out _ hSw
              simp only [List.getElem?_cons_zero, List.getElem?_cons_succ] at t2 t4
              go_simp
              with_reducible rfl
            simp only [List.setIfInBounds_toArray, List.set_cons_zero, List.set_cons_succ]
            refine' take_at (i := 6) (d := 40) (v := _) rfl rfl (by kernel_rfl) (by kernel_rfl) (by kernel_rfl) (fun _ _ _ h => h) (Or.inl ⟨by rfl, ?h6⟩) (H5.out.1) ?_
            case h6 =>
              intro w hSw
              have t := H0.out.2.below hSw
              have t2 := t.cell 2
              have t4 := t.cell 4
              have s1 := (HC.out _ hSw).2.1
              obtain ⟨s2, s3, s4, s5, s6, s7⟩ := HC2.out _ hSw
              simp only [List.getElem?_cons_zero, List.getElem?_cons_succ] at t2 t4
              go_simp
              with_reducible rfl
            simp only [List.setIfInBounds_toArray, List.set_cons_zero, List.set_cons_succ]
            refine' take_at (i := 7) (d := 41) (v := _) rfl rfl (by kernel_rfl) (by kernel_rfl) (by kernel_rfl) (fun _ _ _ h => h) (Or.inl ⟨by rfl, ?h7⟩) (H5.out.1) ?_
            case h7 =>
              intro w hSw
              have t := H0.out.2.below hSw
              have t2 := t.cell 2
              have t4 := t.cell 4
              have s1 := (HC.out _ hSw).2.1
              obtain ⟨s2, s3, s4, s5, s6, s7⟩ := HC2.out _ hSw
              simp only [List.getElem?_cons_zero, List.getElem?_cons_succ] at t2 t4
              go_simp
              with_reducible rfl
            simp only [List.setIfInBounds_toArray, List.set_cons_zero, List.set_cons_succ]
            refine' take_at (i := 8) (d := 42) (v := _) rfl rfl (by kernel_rfl) (by kernel_rfl) (by kernel_rfl) (fun _ _ _ h => h) (Or.inl ⟨by rfl, ?h8⟩) (H5.out.1) ?_
            case h8 =>
              intro w hSw
              have t := H0.out.2.below hSw
              have t2 := t.cell 2
              have t4 := t.cell 4
              have s1 := (HC.out _ hSw).2.1
              obtain ⟨s2, s3, s4, s5, s6, s7⟩ := HC2.out _ hSw
              simp only [List.getElem?_cons_zero, List.getElem?_cons_succ] at t2 t4
              go_simp
              with_reducible rfl
            simp only [List.setIfInBounds_toArray, List.set_cons_zero, List.set_cons_succ]
            refine' take_at (i := 9) (d := 43) (v := _) rfl rfl (by kernel_rfl) (by kernel_rfl) (by kernel_rfl) (fun _ _ _ h => h) (Or.inl ⟨by rfl, ?h9⟩) (H5.out.1) ?_
            case h9 =>
              intro w hSw
              have t := H0.out.2.below hSw
              have t2 := t.cell 2
              have t4 := t.cell 4
              have s1 := (HC.out _ hSw).2.1
              obtain ⟨s2, s3, s4, s5, s6, s7⟩ := HC2.out _ hSw
              simp only [List.getElem?_cons_zero, List.getElem?_cons_succ] at t2 t4
              go_simp
              with_reducible rfl
            simp only [List.setIfInBounds_toArray, List.set_cons_zero, List.set_cons_succ]
            refine' take_at (i := 10) (d := 44) (v := _) rfl rfl (by kernel_rfl) (by kernel_rfl) (by kernel_rfl) (fun _ _ _ h => h) (Or.inl ⟨by rfl, ?h10⟩) (H5.out.1) ?_
            case h10 =>
              intro w hSw
              have t := H0.out.2.below hSw
              have t2 := t.cell 2
              have t4 := t.cell 4
              have s1 := (HC.out _ hSw).2.1
              obtain ⟨s2, s3, s4, s5, s6, s7⟩ := HC2.out _ hSw
              simp only [List.getElem?_cons_zero, List.getElem?_cons_succ] at t2 t4
              go_simp
              with_reducible rfl
            simp only [List.setIfInBounds_toArray, List.set_cons_zero, List.set_cons_succ]
            refine' take_at (i := 11) (d := 45) (v := _) rfl rfl (by kernel_rfl) (by kernel_rfl) (by kernel_rfl) (fun _ _ _ h => h) (Or.inl ⟨by rfl, ?h11⟩) (H5.out.1) ?_
            case h11 =>
              intro w hSw
              have t := H0.out.2.below hSw
              have t2 := t.cell 2
              have t4 := t.cell 4
              have s1 := (HC.out _ hSw).2.1
              obtain ⟨s2, s3, s4, s5, s6, s7⟩ := HC2.out _ hSw
              simp only [List.getElem?_cons_zero, List.getElem?_cons_succ] at t2 t4
              go_simp
              with_reducible rfl
            simp only [List.setIfInBounds_toArray, List.set_cons_zero, List.set_cons_succ]
            refine' take_at (i := 12) (d := 46) (v := _) rfl rfl (by kernel_rfl) (by kernel_rfl) (by kernel_rfl) (fun _ _ _ h => h) (Or.inl ⟨by rfl, ?h12⟩) (H5.out.1) ?_
            case h12 =>
              intro w hSw
              have t := H0.out.2.below hSw
              have t2 := t.cell 2
              have t4 := t.cell 4
              have s1 := (HC.out _ hSw).2.1
              obtain ⟨s2, s3, s4, s5, s6, s7⟩ := HC2.out _ hSw
              simp only [List.getElem?_cons_zero, List.getElem?_cons_succ] at t2 t4
              go_simp
              with_reducible rfl
            simp only [List.setIfInBounds_toArray, List.set_cons_zero, List.set_cons_succ]
            refine' take_at (i := 13) (d := 47) (v := _) rfl rfl (by kernel_rfl) (by kernel_rfl) (by kernel_rfl) (fun _ _ _ h => h) (Or.inl ⟨by rfl, ?h13⟩) (H5.out.1) ?_
            case h13 =>
              intro w hSw
              have t := H0.out.2.below hSw
              have t2 := t.cell 2
              have t4 := t.cell 4
              have s1 := (HC.out _ hSw).2.1
              obtain ⟨s2, s3, s4, s5, s6, s7⟩ := HC2.out _ hSw
              simp only [List.getElem?_cons_zero, List.getElem?_cons_succ] at t2 t4
              go_simp
              with_reducible rfl
            simp only [List.setIfInBounds_toArray, List.set_cons_zero, List.set_cons_succ]
            refine wpAnyH_ready (rs := [14]) (by kernel_rfl) (by simp) ?_
            refine AllReadyH.cons (o := _) rfl (fun KQ hKQ => ?_) AllReadyH.nil
            go_simp
            obtain ⟨xb, hxb⟩ : ∃ z, z = w5.heap.size := ⟨_, rfl⟩
            rw [← hxb]
            have H6 : Hid (Below w0.heap.size w0 (w5.alloc (.cells #[.int .i64 o.kind, .string o.path, .string o.data, .int .i64 o.ver, .int .i64 o.flags] 38)) ∧ Cb (w5.alloc (.cells #[.int .i64 o.kind, .string o.path, .string o.data, .int .i64 o.ver, .int .i64 o.flags] 38)) xb (oc o) 38 ∧ (w5.alloc (.cells #[.int .i64 o.kind, .string o.path, .string o.data, .int .i64 o.ver, .int .i64 o.flags] 38)).ownsRow w0.heap.size 38 5 u5 (Pn.opsAt p.os (l.take j)).length (KO.cs (Pn.opsAt p.os (l.take j)))) := by
              have hb2 := (Below.refl _ w5).alloc (Nat.le_refl _) (.cells #[.int .i64 o.kind, .string o.path, .string o.data, .int .i64 o.ver, .int .i64 o.flags] 38)
              rw [hxb]
              exact ⟨H5.out.1.trans (hb2.mono H5.out.1.size), Cb.made w5 (oc o) _, H5.out.2.alloc _⟩
            clear hxb H5
            generalize (w5.alloc (.cells #[.int .i64 o.kind, .string o.path, .string o.data, .int .i64 o.ver, .int .i64 o.flags] 38)) = w6 at *
            refine hKQ.out _ _ H6.out.1 (fun _ => ?_)
            clear hKQ KQ
            refine wpAnyH_ready (rs := [15]) (by kernel_rfl) (by simp) ?_
            refine AllReadyH.cons (o := _) rfl (fun KQ hKQ => ?_) AllReadyH.nil
            refine KO.ok.appD _ _ rfl 49 rfl w0.heap.size u5 (.slice (some ⟨xb, 0, none⟩) 1 1) (Pn.opsAt p.os (l.take j)) [o] w6 rfl rfl H6.out.2.2 H6.out.1.size (Kd.one_at H6.out.2.1) (KO.one _) (by have := HS.out.2; simp; omega) ?_
            intro v7 w7 hr7 hb7 _ _
            have H7 : Hid (w7.ownsRow w0.heap.size 38 5 v7 (Pn.opsAt p.os (l.take (j + 1))).length (KO.cs (Pn.opsAt p.os (l.take (j + 1)))) ∧ Below w0.heap.size w0 w7) := ⟨by rw [HS.out.1]; exact hr7, H6.out.1.trans hb7⟩
            clear hr7 hb7 H6
            refine hKQ.out _ _ H7.out.2 (fun _ => ?_)
            clear hKQ KQ
            refine' take_at (i := 16) (d := 5) (v := _) rfl rfl (by kernel_rfl) (by kernel_rfl) (by kernel_rfl) (fun _ _ _ h => h) (Or.inl ⟨by rfl, ?h16⟩) (H7.out.2) ?_
            case h16 =>
              intro w hSw
              go_simp
              with_reducible rfl
            simp only [List.setIfInBounds_toArray, List.set_cons_zero, List.set_cons_succ]
            refine wpAnyH_done (by kernel_rfl) ?_ _
            go_wp2
            go_roundw
            case rel => exact ⟨j + 1, by omega, by go_num, H7.out.1, H7.out.2⟩
            case measure => simp [intOf]; omega
          · have hltj' : ¬ (j : Int) < (L : Int) := by omega
            have HF : Hid (wr.ownsRow w0.heap.size 38 5 u5 (Pn.upto p.os l0 i0 (k + 1)).length (KO.cs (Pn.upto p.os l0 i0 (k + 1)))) := by
              have h := HW.out.1
              rw [List.take_of_length_le (by have := HLL.out.1; omega), ← HU2.out.2.2.2] at h
              exact h
            go_wp2
            go_roundw
            case rel => exact ⟨k + 1, by omega, by go_num, HF.out, HW.out.2⟩
            case measure => simp [intOf]; omega
      · have HU2 : Hid (zk ≠ z ∧ Pn.upto p.os l0 i0 (k + 1) = Pn.upto p.os l0 i0 k) := (show _ ∧ _ by have h := HU.out; rwa [if_neg hki] at h)
        clear HU
        have hzz : (zk == z) = false := by have := HU2.out.1; simpa using this
        have h0L : (0 : Int) < (L : Int) := by have := HLL.out.2.1; omega
        go_wp2
        obtain ⟨uq, huq⟩ : ∃ x, x = u5 := ⟨_, rfl⟩
        obtain ⟨wq, hwq⟩ : ∃ x, x = wr := ⟨_, rfl⟩
        rw [← huq, ← hwq] at HW
        go_loopw [5, 7] (fun v i wx => i = .int .i64 0 ∧ v = uq ∧ wx = wq) (fun _ _ _ => 0)
        case atStart => exact ⟨rfl, huq.symm, hwq.symm⟩
        case round =>
          clear huq hwq
          obtain ⟨rfl, rfl, rfl⟩ := hrel
          clear q3
          have hb := HW.out.2.1
          have c1 := (HC.out _ hb).1
          have c2 := (HC.out _ hb).2.1
          have q3 := (H0.out.2.below hb).cell 3
          have q4 := (H0.out.2.below hb).cell 4
          simp only [List.getElem?_cons_zero, List.getElem?_cons_succ] at q3 q4
          clear hb
          go_wp2
          go_roundw
          case rel => exact ⟨k + 1, by omega, by go_num, by rw [HU2.out.2]; exact HW.out.1, HW.out.2.1⟩
          case measure => simp [intOf]; omega
    · have hlt' : ¬ (k : Int) < (NS : Int) := by omega
      have HE : Hid (Ol wr u5 (Pn.opsAt p.os l0)) := by
        have h := HW.out.1
        unfold Pn.upto at h
        rw [if_pos (by have := HZ.out.2.2; omega)] at h
        exact KO.ol h
      go_wp2
      go_ret
      exact ⟨_, rfl, HE.out, HW.out.2.2.1⟩
end Go.Proofs.YtjimemnkmpapgaaGreatDoor
namespace Go.Proofs.YtjimemnkmpapgaaGreatDoor
open Go.RowKit

set_option maxRecDepth 20000 in
set_option maxHeartbeats 8000000 in
theorem refResults_any19 (p : Pn.St) (u a b v : Value) (ls : List (List X)) (R : List X) (w : World) (h : Pv w p u a b) (ok : Pn.Ok p) (hv : Rss w v ls) (hl : ls.length ≤ 1000) (hR : Pn.results p ls = some R) :
    Calls Tryz.prog 23 #[pv p u a b, v] w fun e w' => (∃ g, e = .returned (.tuple #[.slice (some ⟨g, 0, none⟩) p.os.length p.os.length, .bool true]) ∧ Cb w' g (KX.cs R) 50 ∧ R.length = p.os.length) ∧ Below w.heap.size w w' := by
  obtain ⟨⟨ux, uc, rfl⟩, ⟨ax, ac, rfl⟩, ⟨bx, bc, rfl⟩⟩ := h.forms
  obtain ⟨NO, hNO⟩ : ∃ N, N = p.os.length := ⟨_, rfl⟩
  obtain ⟨NS, hNS⟩ : ∃ N, N = p.sh.length := ⟨_, rfl⟩
  obtain ⟨NP, hNP⟩ : ∃ N, N = p.pl.length := ⟨_, rfl⟩
  rw [← hNO, ← hNS, ← hNP] at h
  rw [← hNO, ← hNS, ← hNP]
  obtain ⟨vx, vc', rfl⟩ := hv.form
  obtain ⟨N, hN⟩ : ∃ N, N = ls.length := ⟨_, rfl⟩
  rw [← hN] at hv ⊢
  have H : Hid (Pv w p (.slice ux NO uc) (.slice ax NS ac) (.slice bx NP bc) ∧ Pn.Ok p ∧ Rss w (.slice vx N vc') ls ∧ N = ls.length ∧ NS = p.sh.length ∧ NO = p.os.length ∧ NP = p.pl.length) := ⟨h, ok, hv, hN, hNS, hNO, hNP⟩
  have hN1 : N ≤ 1000 := by omega
  have hO1 : NO ≤ 16 := by have := ok.some_; omega
  have hne : N = NS := by
    unfold Pn.results at hR
    by_cases e : ls.length = p.sh.length
    · rw [hN, hNS]; exact e
    · rw [if_neg e] at hR; cases hR
  have HR : Hid (some R = Pn.resA p.pl ls (List.replicate NO Pn.x0)) := (show _ = _ by
    unfold Pn.results at hR
    rw [if_pos (by rw [← hN, ← hNS]; exact hne)] at hR
    rw [hNO]
    exact hR.symm)
  have HNP : Hid (N = NP) := (show _ = _ by rw [hne, hNS, hNP]; exact ok.len)
  clear h ok hv hl hN hNS hNO hR hNP
  unfold pv
  obtain ⟨q, hq⟩ : ∃ q, q = w.heap.size := ⟨_, rfl⟩
  have H0 : Hid (Below w.heap.size w (w.alloc (.cells #[.int .i64 p.s, .int .i64 p.n, .slice ux NO uc, .slice ax NS ac, .slice bx NP bc] 57)) ∧ Cb (w.alloc (.cells #[.int .i64 p.s, .int .i64 p.n, .slice ux NO uc, .slice ax NS ac, .slice bx NP bc] 57)) q [.int .i64 p.s, .int .i64 p.n, .slice ux NO uc, .slice ax NS ac, .slice bx NP bc] 57) := by
    rw [hq]
    exact ⟨(Below.refl _ w).alloc (Nat.le_refl _) _, Cb.made w [.int .i64 p.s, .int .i64 p.n, .slice ux NO uc, .slice ax NS ac, .slice bx NP bc] _⟩
  have HSZ : Hid ((w.alloc (.cells #[.int .i64 p.s, .int .i64 p.n, .slice ux NO uc, .slice ax NS ac, .slice bx NP bc] 57)).heap.size = q + 1) := (show _ = _ by rw [World.size_alloc, hq])
  go_enter Tryz.func23, Tryz.ntmps23
  have hb0 : ((N : Int) != (NS : Int)) = false := by simp [hne]
  clear hne
  go_wp2_with (at_make; refine make_res19 rfl _ _ rfl NO _ rfl rfl (by omega) ?_)
  rw [← hq]
  clear hq hb0
  generalize (w.alloc (.cells #[.int .i64 p.s, .int .i64 p.n, .slice ux NO uc, .slice ax NS ac, .slice bx NP bc] 57)) = w0 at *
  obtain ⟨g, hg⟩ : ∃ g, g = q + 1 := ⟨_, rfl⟩
  rw [← hg]
  intro w1 hcb hb1
  have hb1 : Below w0.heap.size w0 w1 := by rw [HSZ.out, ← hg]; exact hb1
  have H1 : Hid (Cb w1 g (KX.cs (List.replicate NO Pn.x0)) 50 ∧ Below w0.heap.size w0 w1 ∧ w0.heap.size ≤ g) := ⟨hcb, hb1, by rw [HSZ.out, hg]; exact Nat.le_refl _⟩
  clear hcb hb1 hg
  go_wp2
  go_loopw [7] (fun i wx => ∃ (k : Nat) (acc : List X), k ≤ N ∧ i = .int .i64 (k : Int) ∧ acc.length = NO ∧ Cb wx g (KX.cs acc) 50 ∧ Below w0.heap.size w0 wx ∧ some R = Pn.resA (p.pl.drop k) (ls.drop k) acc) (fun i _ => N - (intOf i).toNat)
  case atStart => exact ⟨0, _, Nat.zero_le _, rfl, by simp, H1.out.1, H1.out.2.1, HR.out⟩
  case round =>
    obtain ⟨k, acc, hk, rfl, hal, hcb, hb, hres⟩ := hrel
    have HW : Hid (acc.length = NO ∧ Cb wr g (KX.cs acc) 50 ∧ Below w0.heap.size w0 wr ∧ some R = Pn.resA (p.pl.drop k) (ls.drop k) acc) := ⟨hal, hcb, hb, hres⟩
    clear hal hcb hb hres
    by_cases hlt : k < N
    · have hlt' : (k : Int) < (N : Int) := by omega
      have hk0 : (0 : Int) ≤ (k : Int) := by omega
      have hkp : (k : Int) < (NP : Int) := by have := HNP.out; omega
      have hwk : IntKind.wrap .i64 ((k : Int) + 1) = (k : Int) + 1 := by rw [IntKind.wrap_i64]; omega
      obtain ⟨l, hl⟩ : ∃ l, p.pl[k]? = some l := ⟨p.pl[k]'(by have := HNP.out; have := H.out.2.2.2.2.2.2; omega), List.getElem?_eq_getElem _⟩
      obtain ⟨xs, hxs⟩ : ∃ l, ls[k]? = some l := ⟨ls[k]'(by have := H.out.2.2.2.1; omega), List.getElem?_eq_getElem _⟩
      have HD : Hid (xs.length = l.length ∧ some R = Pn.resA (p.pl.drop (k + 1)) (ls.drop (k + 1)) (Pn.putL acc l xs)) := by
        have h0 : some R = if xs.length = l.length then Pn.resA (p.pl.drop (k + 1)) (ls.drop (k + 1)) (Pn.putL acc l xs) else none := by
          have h1 := List.getElem?_eq_some_iff.1 hl
          have h2 := List.getElem?_eq_some_iff.1 hxs
          obtain ⟨h1a, h1b⟩ := h1
          obtain ⟨h2a, h2b⟩ := h2
          rw [HW.out.2.2.2, List.drop_eq_getElem_cons h1a, List.drop_eq_getElem_cons h2a, h1b, h2b]
          rfl
        by_cases e : xs.length = l.length
        · rw [if_pos e] at h0; exact ⟨e, h0⟩
        · rw [if_neg e] at h0; cases h0
      have HLK : Hid (l.length ≤ 16 ∧ ∀ z ∈ l, 0 ≤ z ∧ z < (NO : Int)) := by
        have hm := List.mem_of_getElem? hl
        exact ⟨H.out.2.1.plen hm, by rw [H.out.2.2.2.2.2.1]; exact H.out.2.1.rng l hm⟩
      obtain ⟨gb, ob, y, rfl, hcy, hya⟩ := (H.out.1.below H0.out.1).at hl
      obtain ⟨lx, lc, rfl, _, _⟩ := hya.form
      obtain ⟨gv, ov, xv, rfl, hcx, hxa⟩ := (H.out.2.2.1.below H0.out.1).at hxs
      obtain ⟨xx, xc', rfl, _, _⟩ := hxa.form
      obtain ⟨L, hL⟩ : ∃ L, L = l.length := ⟨_, rfl⟩
      rw [HD.out.1] at hcx hxa
      rw [← hL] at hcy hya hcx hxa
      have HC : Hid (∀ w', Below w0.heap.size w0 w' → w'.cell? ⟨gb, ob + k, none⟩ = some (.slice lx L lc) ∧ w'.cell? ⟨gv, ov + k, none⟩ = some (.slice xx L xc') ∧ w'.cell? ⟨q, 4, none⟩ = some (.slice (some ⟨gb, ob, none⟩) NP bc) ∧ KI.At w' (.slice lx L lc) l ∧ KX.At w' (.slice xx L xc') xs) := fun w' hb => ⟨Below.kept hb hcy, Below.kept hb hcx, Below.kept hb (H0.out.2.cell 4), hya.below hb, hxa.below hb⟩
      have HLL : Hid (L = l.length ∧ L = xs.length ∧ L ≤ 16) := ⟨hL, by rw [HD.out.1]; exact hL, by have := HLK.out.1; omega⟩
      have HX0 : Hid (xs ≠ [] → (Value.slice xx L xc').ownBlock ≠ some g) := by
        refine (show xs ≠ [] → (Value.slice xx L xc').ownBlock ≠ some g from fun hx0 e => ?_)
        have h1 := hxa.low KX.ok hx0 e
        have := H1.out.2.2
        omega
      clear hl hxs hcy hya hcx hxa hL
      have c1 := (HC.out wr HW.out.2.2.1).1
      have c2 := (HC.out wr HW.out.2.2.1).2.1
      have c4 := (HC.out wr HW.out.2.2.1).2.2.1
      have hLn : ((L : Int) != (L : Int)) = false := by simp
      go_upto_region 7 with fail
      go_quiet (fail)
      have HW3 : Hid (Cb (wr.drewN nq) g (KX.cs acc) 50 ∧ Below w0.heap.size w0 (wr.drewN nq)) := ⟨HW.out.2.1, below_drewN HW.out.2.2.1 _⟩
      clear c1 c2 c4
      generalize wr.drewN nq = w2 at *
      go_wp2
      go_loopw [8] (fun i wx => ∃ (j : Nat) (acc2 : List X), j ≤ L ∧ i = .int .i64 (j : Int) ∧ acc2.length = NO ∧ Cb wx g (KX.cs acc2) 50 ∧ Below w0.heap.size w0 wx ∧ Pn.putL acc l xs = Pn.putL acc2 (l.drop j) (xs.drop j)) (fun i _ => L - (intOf i).toNat)
      case atStart => exact ⟨0, acc, Nat.zero_le _, rfl, HW.out.1, HW3.out.1, HW3.out.2, rfl⟩
      case round =>
        clear HW
        obtain ⟨j, acc2, hj, rfl, hal, hcb, hb, hput⟩ := hrel
        have HW2 : Hid (acc2.length = NO ∧ Cb wr g (KX.cs acc2) 50 ∧ Below w0.heap.size w0 wr ∧ Pn.putL acc l xs = Pn.putL acc2 (l.drop j) (xs.drop j)) := ⟨hal, hcb, hb, hput⟩
        clear hal hcb hb hput
        have c1 := (HC.out wr HW2.out.2.2.1).1
        have c2 := (HC.out wr HW2.out.2.2.1).2.1
        have c4 := (HC.out wr HW2.out.2.2.1).2.2.1
        by_cases hltj : j < L
        · have hltj' : (j : Int) < (L : Int) := by omega
          have hj0 : (0 : Int) ≤ (j : Int) := by omega
          have hwj : IntKind.wrap .i64 ((j : Int) + 1) = (j : Int) + 1 := by rw [IntKind.wrap_i64]; have := HLL.out.2.2; omega
          obtain ⟨z, hz⟩ : ∃ z, l[j]? = some z := ⟨l[j]'(by have := HLL.out.1; omega), List.getElem?_eq_getElem _⟩
          obtain ⟨x, hx⟩ : ∃ x, xs[j]? = some x := ⟨xs[j]'(by have := HLL.out.2.1; omega), List.getElem?_eq_getElem _⟩
          have hzr := HLK.out.2 z (List.mem_of_getElem? hz)
          obtain ⟨n, rfl⟩ : ∃ n : Nat, z = (n : Int) := ⟨z.toNat, by omega⟩
          have hn0 : (0 : Int) ≤ (n : Int) := hzr.1
          have hn1 : (n : Int) < (NO : Int) := hzr.2
          have HPT : Hid (Pn.putL acc l xs = Pn.putL (acc2.set n x) (l.drop (j + 1)) (xs.drop (j + 1))) := by
            refine (show _ = _ from ?_)
            obtain ⟨h1a, h1b⟩ := List.getElem?_eq_some_iff.1 hz
            obtain ⟨h2a, h2b⟩ := List.getElem?_eq_some_iff.1 hx
            rw [HW2.out.2.2.2, List.drop_eq_getElem_cons h1a, List.drop_eq_getElem_cons h2a, h1b, h2b]
            rfl
          obtain ⟨gz, oz, rfl, hzc⟩ := (HC.out wr HW2.out.2.2.1).2.2.2.1.at hz
          have hx0 : xs ≠ [] := fun e => by rw [e] at hx; cases hx
          obtain ⟨gx, ox, rfl, hxc⟩ := (HC.out wr HW2.out.2.2.1).2.2.2.2.at hx
          have HC2 : Hid (∀ w', Below w0.heap.size w0 w' → w'.cell? ⟨gz, oz + j, none⟩ = some (.int .i64 (n : Int)) ∧ ∀ i u, (xc x nilv)[i]? = some u → w'.cell? ⟨gx, ox + j * 11 + i, none⟩ = some u) := fun w' hb => by
            have h := (HC.out w' hb).2.2.2.1.on hz 0 _ rfl
            have h2 := (HC.out w' hb).2.2.2.2.on hx
            exact ⟨by simpa [KI] using h, h2⟩
          have HNX : Hid (gx ≠ g ∧ n < acc2.length) := ⟨fun e => HX0.out hx0 (by rw [e]; rfl), by have := HW2.out.1; omega⟩
          have HNW : Hid ((KX.cs acc2).take (n * 11) ++ (xc x nilv) ++ (KX.cs acc2).drop (n * 11 + 11) = KX.cs (acc2.set n x)) := KX.ok.cs_set HNX.out.2
          clear hz hx hxc hzc hzr hx0
          go_upto_region 12 with fail
          clear c1 c2 c4
          refine wp_region_held_drew (S := fun w' => Below w0.heap.size w0 w') (by kernel_rfl) HW2.out.2.2.1.drew (fun _ => ?_)
          have H6 : Hid (Below w0.heap.size w0 wr.drew ∧ Cb wr.drew g (KX.cs acc2) 50) := ⟨HW2.out.2.2.1.drew, HW2.out.2.1⟩
          have H7 : Hid (Below w0.heap.size w0 (wr.drew.setRow g (KX.cs (acc2.set n x)).toArray) ∧ Cb (wr.drew.setRow g (KX.cs (acc2.set n x)).toArray) g (KX.cs (acc2.set n x)) 50) := ⟨rowed_below H6.out.1 (Nat.le_refl _) H1.out.2.2 _, H6.out.2.rowed _⟩
          generalize wr.drew = w5 at *
          refine' take_at (i := 0) (d := 47) (v := _) rfl rfl (by kernel_rfl) (by kernel_rfl) (by kernel_rfl) (fun _ _ _ h => h) (Or.inl ⟨by rfl, ?h0⟩) (H6.out.1) ?_
          case h0 =>
            intro w hSw
            have s1 := (HC.out _ hSw).1
            have s2 := (HC.out _ hSw).2.1
            have s3 := (HC.out _ hSw).2.2.1
            have s4 := (HC2.out _ hSw).1
            have hc := (HC2.out _ hSw).2
            have d0 := hc 0 _ rfl
            have d1 := hc 1 _ rfl
            have d2 := hc 2 _ rfl
            have d3 := hc 3 _ rfl
            have d4 := hc 4 _ rfl
            have d5 := hc 5 _ rfl
            have d6 := hc 6 _ rfl
            have d7 := hc 7 _ rfl
            have d8 := hc 8 _ rfl
            have d9 := hc 9 _ rfl
            have d10 := hc 10 _ rfl
            unfold nilv at d3
            simp only [Nat.add_zero] at d0
            go_simp
            with_reducible rfl
          simp only [List.setIfInBounds_toArray, List.set_cons_zero, List.set_cons_succ]
          refine' take_at (i := 1) (d := 48) (v := _) rfl rfl (by kernel_rfl) (by kernel_rfl) (by kernel_rfl) (fun _ _ _ h => h) (Or.inl ⟨by rfl, ?h1⟩) (H6.out.1) ?_
          case h1 =>
            intro w hSw
            have s1 := (HC.out _ hSw).1
            have s2 := (HC.out _ hSw).2.1
            have s3 := (HC.out _ hSw).2.2.1
            have s4 := (HC2.out _ hSw).1
            have hc := (HC2.out _ hSw).2
            have d0 := hc 0 _ rfl
            have d1 := hc 1 _ rfl
            have d2 := hc 2 _ rfl
            have d3 := hc 3 _ rfl
            have d4 := hc 4 _ rfl
            have d5 := hc 5 _ rfl
            have d6 := hc 6 _ rfl
            have d7 := hc 7 _ rfl
            have d8 := hc 8 _ rfl
            have d9 := hc 9 _ rfl
            have d10 := hc 10 _ rfl
            unfold nilv at d3
            simp only [Nat.add_zero] at d0
            go_simp
            with_reducible rfl
          simp only [List.setIfInBounds_toArray, List.set_cons_zero, List.set_cons_succ]
          refine' take_at (i := 2) (d := 49) (v := _) rfl rfl (by kernel_rfl) (by kernel_rfl) (by kernel_rfl) (fun _ _ _ h => h) (Or.inl ⟨by rfl, ?h2⟩) (H6.out.1) ?_
          case h2 =>
            intro w hSw
            have s1 := (HC.out _ hSw).1
            have s2 := (HC.out _ hSw).2.1
            have s3 := (HC.out _ hSw).2.2.1
            have s4 := (HC2.out _ hSw).1
            have hc := (HC2.out _ hSw).2
            have d0 := hc 0 _ rfl
            have d1 := hc 1 _ rfl
            have d2 := hc 2 _ rfl
            have d3 := hc 3 _ rfl
            have d4 := hc 4 _ rfl
            have d5 := hc 5 _ rfl
            have d6 := hc 6 _ rfl
            have d7 := hc 7 _ rfl
            have d8 := hc 8 _ rfl
            have d9 := hc 9 _ rfl
            have d10 := hc 10 _ rfl
            unfold nilv at d3
            simp only [Nat.add_zero] at d0
            go_simp
            with_reducible rfl
          simp only [List.setIfInBounds_toArray, List.set_cons_zero, List.set_cons_succ]
          refine' take_at (i := 3) (d := 50) (v := _) rfl rfl (by kernel_rfl) (by kernel_rfl) (by kernel_rfl) (fun _ _ _ h => h) (Or.inl ⟨by rfl, ?h3⟩) (H6.out.1) ?_
          case h3 =>
            intro w hSw
            have s1 := (HC.out _ hSw).1
            have s2 := (HC.out _ hSw).2.1
            have s3 := (HC.out _ hSw).2.2.1
            have s4 := (HC2.out _ hSw).1
            have hc := (HC2.out _ hSw).2
            have d0 := hc 0 _ rfl
            have d1 := hc 1 _ rfl
            have d2 := hc 2 _ rfl
            have d3 := hc 3 _ rfl
            have d4 := hc 4 _ rfl
            have d5 := hc 5 _ rfl
            have d6 := hc 6 _ rfl
            have d7 := hc 7 _ rfl
            have d8 := hc 8 _ rfl
            have d9 := hc 9 _ rfl
            have d10 := hc 10 _ rfl
            unfold nilv at d3
            simp only [Nat.add_zero] at d0
            go_simp
            with_reducible rfl
          simp only [List.setIfInBounds_toArray, List.set_cons_zero, List.set_cons_succ]
          refine' take_at (i := 4) (d := 51) (v := _) rfl rfl (by kernel_rfl) (by kernel_rfl) (by kernel_rfl) (fun _ _ _ h => h) (Or.inl ⟨by rfl, ?h4⟩) (H6.out.1) ?_
          case h4 =>
            intro w hSw
            have s1 := (HC.out _ hSw).1
            have s2 := (HC.out _ hSw).2.1
            have s3 := (HC.out _ hSw).2.2.1
            have s4 := (HC2.out _ hSw).1
            have hc := (HC2.out _ hSw).2
            have d0 := hc 0 _ rfl
            have d1 := hc 1 _ rfl
            have d2 := hc 2 _ rfl
            have d3 := hc 3 _ rfl
            have d4 := hc 4 _ rfl
            have d5 := hc 5 _ rfl
            have d6 := hc 6 _ rfl
            have d7 := hc 7 _ rfl
            have d8 := hc 8 _ rfl
            have d9 := hc 9 _ rfl
            have d10 := hc 10 _ rfl
            unfold nilv at d3
            simp only [Nat.add_zero] at d0
            go_simp
            with_reducible rfl
          simp only [List.setIfInBounds_toArray, List.set_cons_zero, List.set_cons_succ]
          refine' take_at (i := 5) (d := 52) (v := _) rfl rfl (by kernel_rfl) (by kernel_rfl) (by kernel_rfl) (fun _ _ _ h => h) (Or.inl ⟨by rfl, ?h5⟩) (H6.out.1) ?_
          case h5 =>
            intro w hSw
            have s1 := (HC.out _ hSw).1
            have s2 := (HC.out _ hSw).2.1
            have s3 := (HC.out _ hSw).2.2.1
            have s4 := (HC2.out _ hSw).1
            have hc := (HC2.out _ hSw).2
            have d0 := hc 0 _ rfl
            have d1 := hc 1 _ rfl
            have d2 := hc 2 _ rfl
            have d3 := hc 3 _ rfl
            have d4 := hc 4 _ rfl
            have d5 := hc 5 _ rfl
            have d6 := hc 6 _ rfl
            have d7 := hc 7 _ rfl
            have d8 := hc 8 _ rfl
            have d9 := hc 9 _ rfl
            have d10 := hc 10 _ rfl
            unfold nilv at d3
            simp only [Nat.add_zero] at d0
            go_simp
            with_reducible rfl
          simp only [List.setIfInBounds_toArray, List.set_cons_zero, List.set_cons_succ]
          refine' take_at (i := 6) (d := 53) (v := _) rfl rfl (by kernel_rfl) (by kernel_rfl) (by kernel_rfl) (fun _ _ _ h => h) (Or.inl ⟨by rfl, ?h6⟩) (H6.out.1) ?_
          case h6 =>
            intro w hSw
            have s1 := (HC.out _ hSw).1
            have s2 := (HC.out _ hSw).2.1
            have s3 := (HC.out _ hSw).2.2.1
            have s4 := (HC2.out _ hSw).1
            have hc := (HC2.out _ hSw).2
            have d0 := hc 0 _ rfl
            have d1 := hc 1 _ rfl
            have d2 := hc 2 _ rfl
            have d3 := hc 3 _ rfl
            have d4 := hc 4 _ rfl
            have d5 := hc 5 _ rfl
            have d6 := hc 6 _ rfl
            have d7 := hc 7 _ rfl
            have d8 := hc 8 _ rfl
            have d9 := hc 9 _ rfl
            have d10 := hc 10 _ rfl
            unfold nilv at d3
            simp only [Nat.add_zero] at d0
            go_simp
            with_reducible rfl
          simp only [List.setIfInBounds_toArray, List.set_cons_zero, List.set_cons_succ]
          refine' take_at (i := 7) (d := 54) (v := _) rfl rfl (by kernel_rfl) (by kernel_rfl) (by kernel_rfl) (fun _ _ _ h => h) (Or.inl ⟨by rfl, ?h7⟩) (H6.out.1) ?_
          case h7 =>
            intro w hSw
            have s1 := (HC.out _ hSw).1
            have s2 := (HC.out _ hSw).2.1
            have s3 := (HC.out _ hSw).2.2.1
            have s4 := (HC2.out _ hSw).1
            have hc := (HC2.out _ hSw).2
            have d0 := hc 0 _ rfl
            have d1 := hc 1 _ rfl
            have d2 := hc 2 _ rfl
            have d3 := hc 3 _ rfl
            have d4 := hc 4 _ rfl
            have d5 := hc 5 _ rfl
            have d6 := hc 6 _ rfl
            have d7 := hc 7 _ rfl
            have d8 := hc 8 _ rfl
            have d9 := hc 9 _ rfl
            have d10 := hc 10 _ rfl
            unfold nilv at d3
            simp only [Nat.add_zero] at d0
            go_simp
            with_reducible rfl
          simp only [List.setIfInBounds_toArray, List.set_cons_zero, List.set_cons_succ]
          refine' take_at (i := 8) (d := 55) (v := _) rfl rfl (by kernel_rfl) (by kernel_rfl) (by kernel_rfl) (fun _ _ _ h => h) (Or.inl ⟨by rfl, ?h8⟩) (H6.out.1) ?_
          case h8 =>
            intro w hSw
            have s1 := (HC.out _ hSw).1
            have s2 := (HC.out _ hSw).2.1
            have s3 := (HC.out _ hSw).2.2.1
            have s4 := (HC2.out _ hSw).1
            have hc := (HC2.out _ hSw).2
            have d0 := hc 0 _ rfl
            have d1 := hc 1 _ rfl
            have d2 := hc 2 _ rfl
            have d3 := hc 3 _ rfl
            have d4 := hc 4 _ rfl
            have d5 := hc 5 _ rfl
            have d6 := hc 6 _ rfl
            have d7 := hc 7 _ rfl
            have d8 := hc 8 _ rfl
            have d9 := hc 9 _ rfl
            have d10 := hc 10 _ rfl
            unfold nilv at d3
            simp only [Nat.add_zero] at d0
            go_simp
            with_reducible rfl
          simp only [List.setIfInBounds_toArray, List.set_cons_zero, List.set_cons_succ]
          refine' take_at (i := 9) (d := 56) (v := _) rfl rfl (by kernel_rfl) (by kernel_rfl) (by kernel_rfl) (fun _ _ _ h => h) (Or.inl ⟨by rfl, ?h9⟩) (H6.out.1) ?_
          case h9 =>
            intro w hSw
            have s1 := (HC.out _ hSw).1
            have s2 := (HC.out _ hSw).2.1
            have s3 := (HC.out _ hSw).2.2.1
            have s4 := (HC2.out _ hSw).1
            have hc := (HC2.out _ hSw).2
            have d0 := hc 0 _ rfl
            have d1 := hc 1 _ rfl
            have d2 := hc 2 _ rfl
            have d3 := hc 3 _ rfl
            have d4 := hc 4 _ rfl
            have d5 := hc 5 _ rfl
            have d6 := hc 6 _ rfl
            have d7 := hc 7 _ rfl
            have d8 := hc 8 _ rfl
            have d9 := hc 9 _ rfl
            have d10 := hc 10 _ rfl
            unfold nilv at d3
            simp only [Nat.add_zero] at d0
            go_simp
            with_reducible rfl
          simp only [List.setIfInBounds_toArray, List.set_cons_zero, List.set_cons_succ]
          refine' take_at (i := 10) (d := 57) (v := _) rfl rfl (by kernel_rfl) (by kernel_rfl) (by kernel_rfl) (fun _ _ _ h => h) (Or.inl ⟨by rfl, ?h10⟩) (H6.out.1) ?_
          case h10 =>
            intro w hSw
            have s1 := (HC.out _ hSw).1
            have s2 := (HC.out _ hSw).2.1
            have s3 := (HC.out _ hSw).2.2.1
            have s4 := (HC2.out _ hSw).1
            have hc := (HC2.out _ hSw).2
            have d0 := hc 0 _ rfl
            have d1 := hc 1 _ rfl
            have d2 := hc 2 _ rfl
            have d3 := hc 3 _ rfl
            have d4 := hc 4 _ rfl
            have d5 := hc 5 _ rfl
            have d6 := hc 6 _ rfl
            have d7 := hc 7 _ rfl
            have d8 := hc 8 _ rfl
            have d9 := hc 9 _ rfl
            have d10 := hc 10 _ rfl
            unfold nilv at d3
            simp only [Nat.add_zero] at d0
            go_simp
            with_reducible rfl
          simp only [List.setIfInBounds_toArray, List.set_cons_zero, List.set_cons_succ]
          refine' take_at (i := 11) (d := 58) (v := _) rfl rfl (by kernel_rfl) (by kernel_rfl) (by kernel_rfl) (fun _ _ _ h => h) (Or.inl ⟨by rfl, ?h11⟩) (H6.out.1) ?_
          case h11 =>
            intro w hSw
            have s1 := (HC.out _ hSw).1
            have s2 := (HC.out _ hSw).2.1
            have s3 := (HC.out _ hSw).2.2.1
            have s4 := (HC2.out _ hSw).1
            have hc := (HC2.out _ hSw).2
            have d0 := hc 0 _ rfl
            have d1 := hc 1 _ rfl
            have d2 := hc 2 _ rfl
            have d3 := hc 3 _ rfl
            have d4 := hc 4 _ rfl
            have d5 := hc 5 _ rfl
            have d6 := hc 6 _ rfl
            have d7 := hc 7 _ rfl
            have d8 := hc 8 _ rfl
            have d9 := hc 9 _ rfl
            have d10 := hc 10 _ rfl
            unfold nilv at d3
            simp only [Nat.add_zero] at d0
            go_simp
            with_reducible rfl
          simp only [List.setIfInBounds_toArray, List.set_cons_zero, List.set_cons_succ]
          refine' take_at (i := 12) (d := 59) (v := _) rfl rfl (by kernel_rfl) (by kernel_rfl) (by kernel_rfl) (fun _ _ _ h => h) (Or.inl ⟨by rfl, ?h12⟩) (H6.out.1) ?_
          case h12 =>
            intro w hSw
            have s1 := (HC.out _ hSw).1
            have s2 := (HC.out _ hSw).2.1
            have s3 := (HC.out _ hSw).2.2.1
            have s4 := (HC2.out _ hSw).1
            have hc := (HC2.out _ hSw).2
            have d0 := hc 0 _ rfl
            have d1 := hc 1 _ rfl
            have d2 := hc 2 _ rfl
            have d3 := hc 3 _ rfl
            have d4 := hc 4 _ rfl
            have d5 := hc 5 _ rfl
            have d6 := hc 6 _ rfl
            have d7 := hc 7 _ rfl
            have d8 := hc 8 _ rfl
            have d9 := hc 9 _ rfl
            have d10 := hc 10 _ rfl
            unfold nilv at d3
            simp only [Nat.add_zero] at d0
            go_simp
            with_reducible rfl
          simp only [List.setIfInBounds_toArray, List.set_cons_zero, List.set_cons_succ]
          refine' take_at (i := 13) (d := 60) (v := _) rfl rfl (by kernel_rfl) (by kernel_rfl) (by kernel_rfl) (fun _ _ _ h => h) (Or.inl ⟨by rfl, ?h13⟩) (H6.out.1) ?_
          case h13 =>
            intro w hSw
            have s1 := (HC.out _ hSw).1
            have s2 := (HC.out _ hSw).2.1
            have s3 := (HC.out _ hSw).2.2.1
            have s4 := (HC2.out _ hSw).1
            have hc := (HC2.out _ hSw).2
            have d0 := hc 0 _ rfl
            have d1 := hc 1 _ rfl
            have d2 := hc 2 _ rfl
            have d3 := hc 3 _ rfl
            have d4 := hc 4 _ rfl
            have d5 := hc 5 _ rfl
            have d6 := hc 6 _ rfl
            have d7 := hc 7 _ rfl
            have d8 := hc 8 _ rfl
            have d9 := hc 9 _ rfl
            have d10 := hc 10 _ rfl
            unfold nilv at d3
            simp only [Nat.add_zero] at d0
            go_simp
            with_reducible rfl
          simp only [List.setIfInBounds_toArray, List.set_cons_zero, List.set_cons_succ]
          refine' take_at (i := 14) (d := 61) (v := _) rfl rfl (by kernel_rfl) (by kernel_rfl) (by kernel_rfl) (fun _ _ _ h => h) (Or.inl ⟨by rfl, ?h14⟩) (H6.out.1) ?_
          case h14 =>
            intro w hSw
            have s1 := (HC.out _ hSw).1
            have s2 := (HC.out _ hSw).2.1
            have s3 := (HC.out _ hSw).2.2.1
            have s4 := (HC2.out _ hSw).1
            have hc := (HC2.out _ hSw).2
            have d0 := hc 0 _ rfl
            have d1 := hc 1 _ rfl
            have d2 := hc 2 _ rfl
            have d3 := hc 3 _ rfl
            have d4 := hc 4 _ rfl
            have d5 := hc 5 _ rfl
            have d6 := hc 6 _ rfl
            have d7 := hc 7 _ rfl
            have d8 := hc 8 _ rfl
            have d9 := hc 9 _ rfl
            have d10 := hc 10 _ rfl
            unfold nilv at d3
            simp only [Nat.add_zero] at d0
            go_simp
            with_reducible rfl
          simp only [List.setIfInBounds_toArray, List.set_cons_zero, List.set_cons_succ]
          refine' take_at (i := 15) (d := 62) (v := _) rfl rfl (by kernel_rfl) (by kernel_rfl) (by kernel_rfl) (fun _ _ _ h => h) (Or.inl ⟨by rfl, ?h15⟩) (H6.out.1) ?_
          case h15 =>
            intro w hSw
            have s1 := (HC.out _ hSw).1
            have s2 := (HC.out _ hSw).2.1
            have s3 := (HC.out _ hSw).2.2.1
            have s4 := (HC2.out _ hSw).1
            have hc := (HC2.out _ hSw).2
            have d0 := hc 0 _ rfl
            have d1 := hc 1 _ rfl
            have d2 := hc 2 _ rfl
            have d3 := hc 3 _ rfl
            have d4 := hc 4 _ rfl
            have d5 := hc 5 _ rfl
            have d6 := hc 6 _ rfl
            have d7 := hc 7 _ rfl
            have d8 := hc 8 _ rfl
            have d9 := hc 9 _ rfl
            have d10 := hc 10 _ rfl
            unfold nilv at d3
            simp only [Nat.add_zero] at d0
            go_simp
            with_reducible rfl
          simp only [List.setIfInBounds_toArray, List.set_cons_zero, List.set_cons_succ]
          refine' take_at (i := 16) (d := 63) (v := _) rfl rfl (by kernel_rfl) (by kernel_rfl) (by kernel_rfl) (fun _ _ _ h => h) (Or.inl ⟨by rfl, ?h16⟩) (H6.out.1) ?_
          case h16 =>
            intro w hSw
            have s1 := (HC.out _ hSw).1
            have s2 := (HC.out _ hSw).2.1
            have s3 := (HC.out _ hSw).2.2.1
            have s4 := (HC2.out _ hSw).1
            have hc := (HC2.out _ hSw).2
            have d0 := hc 0 _ rfl
            have d1 := hc 1 _ rfl
            have d2 := hc 2 _ rfl
            have d3 := hc 3 _ rfl
            have d4 := hc 4 _ rfl
            have d5 := hc 5 _ rfl
            have d6 := hc 6 _ rfl
            have d7 := hc 7 _ rfl
            have d8 := hc 8 _ rfl
            have d9 := hc 9 _ rfl
            have d10 := hc 10 _ rfl
            unfold nilv at d3
            simp only [Nat.add_zero] at d0
            go_simp
            with_reducible rfl
          simp only [List.setIfInBounds_toArray, List.set_cons_zero, List.set_cons_succ]
          refine wpAnyH_ready (rs := [17]) (by kernel_rfl) (by simp) ?_
          refine AllReadyH.cons (o := _) rfl (fun KQ hKQ => ?_) AllReadyH.nil
          refine wp_store_part 50 _ _ rfl g (n * 11) (xc x nilv).toArray rfl rfl 50 (KX.cs acc2) (KX.cs (acc2.set n x)) H6.out.2 (by kernel_rfl) (by rw [KX.ok.cs_len]; show n * 11 + 11 ≤ acc2.length * 11; have := HNX.out.2; omega) (by kernel_rfl) HNW.out ?_
          generalize w5.setRow g (KX.cs (acc2.set n x)).toArray = w6 at *
          refine hKQ.out _ _ H7.out.1 (fun _ => ?_)
          clear hKQ KQ
          refine wpAnyH_done (by kernel_rfl) ?_ _
          go_wp2
          go_roundw
          case rel => exact ⟨j + 1, acc2.set n x, by omega, by go_num, by rw [List.length_set]; exact HW2.out.1, H7.out.2, H7.out.1, HPT.out⟩
          case measure => simp [intOf]; omega
        · have hltj' : ¬ (j : Int) < (L : Int) := by omega
          have HRS : Hid (some R = Pn.resA (p.pl.drop (k + 1)) (ls.drop (k + 1)) acc2) := (show _ = _ by
            have e : l.drop j = [] := List.drop_of_length_le (by have := HLL.out.1; omega)
            rw [HD.out.2, HW2.out.2.2.2, e, Pn.putL_nil])
          go_wp2
          go_roundw
          case rel => exact ⟨k + 1, acc2, by omega, by go_num, HW2.out.1, HW2.out.2.1, HW2.out.2.2.1, HRS.out⟩
          case measure => simp [intOf]; omega
    · have hlt' : ¬ (k : Int) < (N : Int) := by omega
      have HE : R = acc := by
        have h := HW.out.2.2.2
        rw [List.drop_of_length_le (by have := HNP.out; have := H.out.2.2.2.2.2.2; omega)] at h
        exact Option.some.inj h
      subst HE
      go_wp2
      go_ret2
      exact ⟨⟨g, rfl, HW.out.2.1, HW.out.1⟩, H0.out.1.trans (HW.out.2.2.1.mono H0.out.1.size)⟩
end Go.Proofs.YtjimemnkmpapgaaGreatDoor
