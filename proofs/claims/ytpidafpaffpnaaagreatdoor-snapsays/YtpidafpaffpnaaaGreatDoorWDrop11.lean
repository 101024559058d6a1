/- What the landed tree's Drop does. -/
import Derived.Test.YtpidafpaffpnaaaGreatDoorWTry11
import Derived.Test.YtpidafpaffpnaaaGreatDoorWAdd11
namespace Go.Proofs.YtpidafpaffpnaaaGreatDoor
open Go.RowKit
section
variable {w : World} {q m : Nat} {t : Tq.Tr} {G : Nat → Prop} {D : DataW Nat} {P : ByteArray → Nat} {V : ByteArray → Value}

set_option maxRecDepth 20000 in
set_option maxHeartbeats 2000000 in
theorem drop_no11 (p : ByteArray) (h : TkU w q t G m D P V) (hp : p.size ≤ maxLen) (hn : Tq.find t.l p = none) :
    Calls Tryz.prog 82 #[dptr q, .string p] w fun e w' => e = .returned (.bool false) ∧ Below w.heap.size w w' := by
  have HD : Hid (TkU w q t G m D P V) := h
  have HK : Hid (keyOf Tryz.prog 9 (.string p) = some (fkey p)) := key_of hp
  have HN : Hid (Maps.has D (fkey p) = false) := h.nowhere hn
  have c0 : w.cell? ⟨q, 0, none⟩ = some (.map (some m)) := h.blk.cell 0
  clear h hp hn
  go_enter Tryz.func82, Tryz.ntmps82
  go_wp2_with (at_lookup; refine wpList_lookup_own_ok _ rfl _ _ 96 rfl 9 109 keyed11 Tryz.underlying96 fElem (zeroPtr11 _) .nil [] rfl m t.l.length D rfl HD.out.own (.string p) (fkey p) rfl HK.out ?_)
  intro v ps hv
  rw [Maps.atKey_of_not_has HN.out] at hv
  obtain rfl := fElem_nil hv
  rw [HN.out]
  clear hv
  go_wp2
  go_ret
  exact ⟨rfl, Below.refl _ _⟩

set_option maxRecDepth 20000 in
set_option maxHeartbeats 4000000 in
theorem drop_yes11 (p : ByteArray) (n : Kq.Kn) (h : TkU w q t G m D P V) (hf : Fine11 t) (h6 : ∀ k, G k → 6 ≤ k) (hS : Pa.Std w) (hg : Pl.goodB p.data.toList = true) (hn : Tq.find t.l p = some n) :
    Calls Tryz.prog 82 #[dptr q, .string p] w fun e w' => e = .returned (.bool true) ∧ ∃ G', LTk w' q { t with l := Tq.orphan (Tq.del t.l p) p } G' ∧ Moved w w' G G' := by
  have HD : Hid (TkU w q t G m D P V ∧ Pa.Std w) := ⟨h, hS⟩
  have HK : Hid (keyOf Tryz.prog 9 (.string p) = some (fkey p)) := key_of (good_max hg)
  have HT : Hid (Maps.has D (fkey p) = true ∧ ∀ z, D.atKey (fkey p) z = .held (P p)) := h.there hn
  have HN : Hid (Tq.find t.l p = some n ∧ Fine11 t ∧ Pl.goodB p.data.toList = true ∧ ∀ k, G k → 6 ≤ k) := ⟨hn, hf, hg, h6⟩
  obtain ⟨l1, hl1⟩ : ∃ l1, l1 = Tq.del t.l p := ⟨_, rfl⟩
  obtain ⟨l2, hl2⟩ : ∃ l2, l2 = Tq.orphan (Tq.del t.l p) p := ⟨_, rfl⟩
  have HAB : Hid (l2 = match Tq.abv l1 p with | none => l1 | some um => Tq.set l1 um.1 (Kq.remove um.2 (Tq.nm p))) := by
    have e : l2 = match Tq.abv l1 p with | none => l1 | some um => Tq.set l1 um.1 (Kq.remove um.2 (Tq.nm p)) := by rw [hl2, hl1]; exact Tq.gone_abv
    exact e
  have HF1 : Hid (Fine11 { t with l := l1 }) := by
    have e : Fine11 { t with l := l1 } := by rw [hl1]; exact Tq.fine_del hf
    exact e
  have HL1 : Hid (l1 = Tq.del t.l p) := hl1
  rw [← hl2]
  have c0 : w.cell? ⟨q, 0, none⟩ = some (.map (some m)) := h.blk.cell 0
  clear h hS hf h6 hg hn hl1 hl2
  go_enter Tryz.func82, Tryz.ntmps82
  go_wp2_with (at_lookup; refine wpList_lookup_own_ok _ rfl _ _ 96 rfl 9 109 keyed11 Tryz.underlying96 fElem (zeroPtr11 _) .nil [] rfl m t.l.length D rfl HD.out.1.own (.string p) (fkey p) rfl HK.out ?_)
  intro v ps hv
  rw [HT.out.2] at hv
  obtain rfl := fElem_held hv
  rw [HT.out.1]
  clear hv
  obtain ⟨w2, hrun, hown, hturn⟩ := HD.out.1.own.drop keyed11 Tryz.underlying96 HK.out 0
  have H2 : Hid (TkU w2 q { t with l := l1 } G m (D.del (fkey p)) P V ∧ Pa.Std w2 ∧ Moved w w2 G G) := by
    have key := HD.out.1.gone HN.out.2.1.rise (Tq.find_some HN.out.1) hown hturn
    rw [HL1.out]
    exact ⟨key.1, HD.out.2.moved key.2 HN.out.2.2.2, key.2⟩
  clear hown hturn
  go_wp2_with fail
  clear hrun c0
  refine (above_any11 p H2.out.1 H2.out.2.1 HN.out.2.2.1).mono ?_
  rintro e w3 ⟨hb, hy, hn⟩
  have H3 : Hid (TkU w3 q { t with l := l1 } G m (D.del (fkey p)) P V ∧ Pa.Std w3 ∧ Moved w w3 G G) := ⟨H2.out.1.below hb, H2.out.2.1.below hb, H2.out.2.2.trans (Moved.of_below G hb)⟩
  clear hb H2
  cases ha : Tq.abv l1 p with
  | none =>
    obtain rfl := hn ha
    have HE : Hid (l2 = l1) := by
      have e : l2 = l1 := by rw [HAB.out, ha]
      exact e
    clear ha hy hn
    go_wp2
    go_ret
    exact ⟨rfl, G, by rw [HE.out]; exact ⟨_, _, _, _, H3.out.1⟩, H3.out.2.2⟩
  | some um =>
    obtain ⟨pb, hpb⟩ : ∃ pb, pb = P um.1 := ⟨_, rfl⟩
    have he : e = .returned (.tuple #[dptr pb, .bool true]) := by rw [hpb]; exact hy um ha
    subst he
    have HU : Hid (l2 = Tq.set l1 um.1 (Kq.remove um.2 (Tq.nm p)) ∧ Tq.find l1 um.1 = some um.2 ∧ pb = P um.1 ∧ Node11 um.2) := ⟨by rw [HAB.out, ha], (Tq.abv_some ha).2, hpb, (HF1.out.nodes _ (Tq.find_some (Tq.abv_some ha).2)).2⟩
    clear ha hy hn hpb
    go_wp2_with fail
    refine wp_region_held_drew (S := fun _ => True) (by kernel_rfl) trivial (fun _ => ?_)
    have H4 : Hid (TkU w3.drew q { t with l := l1 } G m (D.del (fkey p)) P V ∧ Pa.Std w3.drew ∧ Moved w w3.drew G G) := ⟨H3.out.1.below (Below.refl _ _).drew, H3.out.2.1.below (Below.refl _ _).drew, H3.out.2.2.trans (Moved.of_below G (Below.refl _ _).drew)⟩
    clear H3
    generalize w3.drew = w4 at *
    refine' take_at (i := 0) (d := 32) (v := _) rfl rfl (by kernel_rfl) (by kernel_rfl) (by kernel_rfl) (fun _ _ _ h => h) (Or.inl ⟨by rfl, ?h0⟩) (trivial) ?_
    case h0 =>
      intro w hSw
      go_simp
      with_reducible rfl
    simp only [List.setIfInBounds_toArray, List.set_cons_zero, List.set_cons_succ]
    refine' take_at (i := 1) (d := 33) (v := _) rfl rfl (by kernel_rfl) (by kernel_rfl) (by kernel_rfl) (fun _ _ _ h => h) (Or.inl ⟨by rfl, ?h1⟩) (trivial) ?_
    case h1 =>
      intro w hSw
      go_simp
      with_reducible rfl
    simp only [List.setIfInBounds_toArray, List.set_cons_zero, List.set_cons_succ]
    refine' take_at (i := 2) (d := 34) (v := _) rfl rfl (by kernel_rfl) (by kernel_rfl) (by kernel_rfl) (fun _ _ _ h => h) (Or.inl ⟨by rfl, ?h2⟩) (trivial) ?_
    case h2 =>
      intro w hSw
      go_simp
      with_reducible rfl
    simp only [List.setIfInBounds_toArray, List.set_cons_zero, List.set_cons_succ]
    refine' take_at (i := 3) (d := 35) (v := _) rfl rfl (by kernel_rfl) (by kernel_rfl) (by kernel_rfl) (fun _ _ _ h => h) (Or.inl ⟨by rfl, ?h3⟩) (trivial) ?_
    case h3 =>
      intro w hSw
      go_simp
      with_reducible rfl
    simp only [List.setIfInBounds_toArray, List.set_cons_zero, List.set_cons_succ]
    refine wpAnyH_ready (rs := [4]) (by kernel_rfl) (by simp) ?_
    refine AllReadyH.cons (o := _) rfl (fun KQ hKQ => ?_) AllReadyH.nil
    go_simp
    refine (name_nm p w4 H4.out.2.1 HN.out.2.2.1).mono ?_
    rintro e w5 ⟨rfl, hb⟩
    have H5 : Hid (TkU w5 q { t with l := l1 } G m (D.del (fkey p)) P V ∧ Moved w w5 G G) := ⟨H4.out.1.below hb, H4.out.2.2.trans (Moved.of_below G hb)⟩
    clear hb H4
    simp only []
    refine hKQ.out _ _ trivial (fun _ => ?_)
    clear hKQ KQ
    refine wpAnyH_ready (rs := [5]) (by kernel_rfl) (by simp) ?_
    refine AllReadyH.cons (o := _) rfl (fun KQ hKQ => ?_) AllReadyH.nil
    go_simp
    refine (remove_any11 pb um.2 (V um.1) (Tq.nm p) w5 (by rw [HU.out.2.2.1]; exact H5.out.1.node _ (Tq.find_some HU.out.2.1)) (fine11_10 HU.out.2.2.2)).mono ?_
    rintro e w6 ⟨v6, rfl, hO, hmv⟩
    have H6 : Hid (∃ G', LTk w6 q { t with l := l2 } G' ∧ Moved w w6 G G') := by
      rw [HU.out.2.2.1] at hO hmv
      have key := H5.out.1.change (Tq.find_some HU.out.2.1) hO hmv
      exact ⟨_, by rw [HU.out.1]; exact ⟨_, _, _, _, key.1⟩, H5.out.2.trans key.2⟩
    clear hO hmv H5
    simp only []
    refine hKQ.out _ _ trivial (fun _ => ?_)
    clear hKQ KQ
    refine wpAnyH_done (by kernel_rfl) ?_ _
    go_wp2
    go_ret
    exact ⟨rfl, H6.out⟩
end
end Go.Proofs.YtpidafpaffpnaaaGreatDoor
