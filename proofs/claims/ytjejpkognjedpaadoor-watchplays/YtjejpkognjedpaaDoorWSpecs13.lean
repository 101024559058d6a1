/- Drop whole; the contracts of the landed watch. -/
import Derived.Test.YtjejpkognjedpaaDoorWDropB13
namespace Go.Proofs.YtjejpkognjedpaaDoor
open Go.RowKit

set_option maxRecDepth 20000 in
set_option maxHeartbeats 1000000 in
theorem index_none13 (sb : Nat) (w : World) : Calls Tryd.prog 39 #[.slice none 0 0, (Value.func (.func 26) #[] #[.pointer (some ⟨sb, 0, none⟩)])] w fun e w' => e = .returned (.int .i64 (-1)) ∧ w' = w := by
  go_enter Tryd.func39, Tryd.ntmps39
  go_wp2
  go_loopw [8] (fun i wx => i = .int .i64 0 ∧ wx = w) (fun _ _ => 0)
  case atStart => exact ⟨rfl, rfl⟩
  case round =>
    obtain ⟨rfl, rfl⟩ := hrel
    go_wp2
    go_ret
    exact ⟨rfl, rfl⟩
set_option maxRecDepth 20000 in
set_option maxHeartbeats 1000000 in
theorem delete_none13 (sb : Nat) (w : World) : Calls Tryd.prog 25 #[.slice none 0 0, (Value.func (.func 26) #[] #[.pointer (some ⟨sb, 0, none⟩)])] w fun e w' => e = .returned (.slice none 0 0) ∧ w' = w := by
  go_enter Tryd.func25, Tryd.ntmps25
  go_wp2_with fail
  refine (index_none13 sb w).mono ?_
  rintro e w' ⟨rfl, hw⟩
  rw [hw]
  clear hw w'
  go_wp2
  go_ret
  exact ⟨rfl, rfl⟩
/-- What DeleteFunc leaves, whether there is a row or not. -/
theorem delete_row13 (v : Value) (N : Nat) (l : List Hq.Wt) (n : Int) (sb : Nat) (w : World) (h : w.ownsRow 0 54 3 v N (wcs l)) (hN : N = l.length) (hl : N ≤ 1000) (hc : w.cell? ⟨sb, 0, none⟩ = some (.int .i64 n)) (hsg : v.ownBlock ≠ some sb) :
    Calls Tryd.prog 25 #[v, (Value.func (.func 26) #[] #[.pointer (some ⟨sb, 0, none⟩)])] w fun e w' => ∃ a M c, e = .returned (.slice a M c) ∧ M = (l.filter (fun x : Hq.Wt => !decide (x.sess = n))).length ∧ w'.ownsRow 0 54 3 (.slice a M c) M (wcs (l.filter (fun x : Hq.Wt => !decide (x.sess = n)))) ∧ w.grownBy w' v.ownBlock ∧ (Value.slice a M c).ownBlock = v.ownBlock := by
  rcases h.2 with ⟨rfl, rfl⟩ | ⟨g, c, cur, rfl, _⟩
  · obtain rfl : l = [] := List.length_eq_zero_iff.1 hN.symm
    refine (delete_none13 sb w).mono ?_
    rintro e w' ⟨rfl, rfl⟩
    exact ⟨none, 0, 0, rfl, rfl, World.ownsRow_nil _ _ _ _, ⟨rfl, rfl, rfl, Nat.le_refl _, fun _ _ _ => rfl⟩, rfl⟩
  · refine (delete_any13 g N c l n sb w h hN hl hc (fun e => hsg (by rw [e]; rfl))).mono ?_
    rintro e w' ⟨M, rfl, h1, h2, h3⟩
    exact ⟨_, M, c, rfl, h1, h2, h3, rfl⟩

set_option maxRecDepth 20000 in
set_option maxHeartbeats 4000000 in
theorem drop_any13 (q : Nat) (s : Hq.St) (F : Nat → Prop) (n : Int) (w : World) (hL : LWt w q s F) (hf : Hq.Fine s) :
    Calls Tryd.prog 12 #[dptr q, .int .i64 n] w fun e w' => ∃ F', e = .returned (.int .i64 ((s.l.length : Int) - ((Hq.drop s n).l.length : Int))) ∧ LWt w' q (Hq.drop s n) F' ∧ Moved w w' F F' := by
  obtain ⟨v, hl, rfl⟩ := hL
  obtain ⟨N, hN⟩ : ∃ N, N = s.l.length := ⟨_, rfl⟩
  have hr := hl.row
  rw [← hN] at hr ⊢
  obtain ⟨a, c, rfl, hNc, hj⟩ := row_form hr
  have hN1 : N ≤ 1000 := by rw [hN]; exact hf.len
  obtain ⟨M, hM⟩ : ∃ M, M = (Hq.drop s n).l.length := ⟨_, rfl⟩
  rw [← hM]
  have hMN : M ≤ N := by rw [hM, hN]; exact List.length_filter_le _ _
  have H0 : Hid (Lw13 w q s (.slice a N c) ∧ N = s.l.length ∧ w.ownsRow 0 54 3 (.slice a N c) N (wcs s.l) ∧ M = (Hq.drop s n).l.length) := ⟨hl, hN, hr, hM⟩
  obtain ⟨sb, hsb⟩ : ∃ z, z = w.heap.size := ⟨_, rfl⟩
  have HB : Hid (Below w.heap.size w (w.alloc (.cells #[.int .i64 n] 2)) ∧ (w.alloc (.cells #[.int .i64 n] 2)).cell? ⟨sb, 0, none⟩ = some (.int .i64 n) ∧ w.heap.size ≤ sb) := by
    rw [hsb]
    exact ⟨(Below.refl _ w).alloc (Nat.le_refl _) _, (Cb.made w [.int .i64 n] _).cell 0, Nat.le_refl _⟩
  clear hl hN hr hNc hj hM hf
  unfold dptr
  go_enter Tryd.func12, Tryd.ntmps12
  go_upto_region 1 with fail
  rw [← hsb]
  clear hsb
  generalize (w.alloc (.cells #[.int .i64 n] 2)) = w1 at *
  have H1 : Hid (Cb w1 q [.int .i64 s.room, .slice a N c] 49 ∧ w1.ownsRow 0 54 3 (.slice a N c) N (wcs s.l) ∧ (Value.slice a N c).ownBlock ≠ some sb) := ⟨H0.out.1.blk.below HB.out.1, row_stays H0.out.2.2.1 fun k hk => HB.out.1.block k (H0.out.2.2.1.lt k hk).2, fun e => by have := (H0.out.2.2.1.lt sb e).2; have := HB.out.2.2; omega⟩
  have c1 : w1.cell? ⟨q, 1, none⟩ = some (.slice a N c) := H1.out.1.cell 1
  go_wp2_with fail
  refine (delete_row13 (.slice a N c) N s.l n sb w1 H1.out.2.1 H0.out.2.1 hN1 HB.out.2.1 H1.out.2.2).mono ?_
  rintro e w2 ⟨a2, M2, c2, rfl, hM2, hr2, hg2, hv2⟩
  have hMM : M2 = M := by rw [hM2, H0.out.2.2.2]; rfl
  subst hMM
  have H2 : Hid (w2.ownsRow 0 54 3 (.slice a2 M2 c2) M2 (wcs (Hq.drop s n).l) ∧ w1.grownBy w2 (Value.slice a N c).ownBlock ∧ (Value.slice a2 M2 c2).ownBlock = (Value.slice a N c).ownBlock ∧ Cb w2 q [.int .i64 s.room, .slice a N c] 49) :=
    ⟨hr2, hg2, hv2, H1.out.1.keep (hg2.block q H1.out.1.lt (fun e => H1.out.1.apart H1.out.2.1 (by decide) e.symm))⟩
  clear hM2 hr2 hg2 hv2 c1
  have HE : Hid (LWt (w2.setCell ⟨q, 1, none⟩ (.slice a2 M2 c2)) q (Hq.drop s n) (Fw13 (.slice a2 M2 c2) q) ∧ Moved w (w2.setCell ⟨q, 1, none⟩ (.slice a2 M2 c2)) (Fw13 (.slice a N c) q) (Fw13 (.slice a2 M2 c2) q) ∧ (w2.setCell ⟨q, 1, none⟩ (.slice a2 M2 c2)).cell? ⟨q, 1, none⟩ = some (.slice a2 M2 c2)) := by
    have hb := HB.out.1
    have hg := H2.out.2.1
    have hs := grownBy_setCell w2 ⟨q, 1, none⟩ (.slice a2 M2 c2)
    have hq := H2.out.2.2.2
    have hap : (Value.slice a2 M2 c2).ownBlock ≠ some q := hq.apart H2.out.1 (by decide)
    refine ⟨⟨_, ⟨hq.set 1 _, ?_⟩, rfl⟩, ⟨hs.os.trans (hg.os.trans hb.os), hs.tape.trans (hg.tape.trans hb.tape), hs.output.trans (hg.output.trans hb.output), Nat.le_trans hb.size (Nat.le_trans hg.size hs.size), fun k hk hF => ?_, fun k hk => Or.inl ?_⟩, (hq.set 1 _).cell 1⟩
    · rw [← H0.out.2.2.2]
      exact row_stays H2.out.1 fun k hk => hs.block k (H2.out.1.lt k hk).2 (fun e => hap (by rw [hk, e]))
    · have e1 := hb.size
      have e2 := hg.size
      have hk1 : k ≠ q := fun e => hF (Or.inr e)
      rw [hs.block k (by omega) (fun e => hk1 (by simpa using e)), hg.block k (by omega) (fun e => hF (Or.inl e.symm)), hb.block k hk]
    · rcases hk with hk | rfl
      · exact Or.inl (by rw [← H2.out.2.2.1]; exact hk)
      · exact Or.inr rfl
  have d2 : w2.cell? ⟨q, 1, none⟩ = some (.slice a N c) := H2.out.2.2.2.cell 1
  have f2 : w2.frozen? ⟨q, 1, none⟩ = false := H2.out.2.2.2.free 1
  have c3 : (w2.setCell ⟨q, 1, none⟩ (.slice a2 M2 c2)).cell? ⟨q, 1, none⟩ = some (.slice a2 M2 c2) := HE.out.2.2
  have hw : IntKind.wrap .i64 ((N : Int) - (M2 : Int)) = (N : Int) - (M2 : Int) := by rw [IntKind.wrap_i64]; omega
  go_wp2
  go_ret
  exact ⟨_, rfl, HE.out.1, HE.out.2.1⟩

theorem specs_any13 : Specs13 LWt where
  lt := LWt.lt
  keep := LWt.keep
  new := new_any13
  arm := fun q s F x w hL hf _ hS hp => arm_any13 q s F x w hL hf hS hp
  fire := fun q s F p c w hL hf _ hS hp => fire_any13 q s F p c w hL hf hS hp
  drop := drop_any13
  len := len_any13
end Go.Proofs.YtjejpkognjedpaaDoor
