/- What the statements' own same answers: the landed disk beside the reference's. -/
import Derived.Test.YtphmmdjefpfehaaMine7
import Derived.Test.YtphmmdjefpfehaaRAppend7
import Derived.Test.YtphmmdjefpfehaaRCut7
import Derived.Test.YtphmmdjefpfehaaRRename7
import Derived.Test.YtphmmdjefpfehaaRCrash7
import Derived.Test.YtphmmdjefpfehaaRSame7
namespace Go.Proofs.Ytphmmdjefpfehaa
open Go.RowKit

/-- A landed disk and the reference's, apart from one another; all is the statement's own. -/
structure Two7 (LD : Rep) (W w : World) (q qr : Nat) (sd sr : Dq.St) (F G : Nat → Prop) (v : Value) (ps : List (Dq.Fl × Value)) : Prop where
  ld : LD w q sd F
  rd : RefC w qr sr G v ps
  fd : Fine sd
  fr : Fine sr
  ap : ∀ k, F k → ¬ G k
  hF : ∀ k, F k → W.heap.size ≤ k
  hG : ∀ k, G k → W.heap.size ≤ k
  below : Below W.heap.size W w

theorem Two7.landed {LD : Rep} {W w w' : World} {q qr : Nat} {sd sd' sr : Dq.St} {F F' G : Nat → Prop} {v : Value} {ps : List (Dq.Fl × Value)} (h : Two7 LD W w q qr sd sr F G v ps) (hl : LD w' q sd' F') (hf : Fine sd') (hm : Moved w w' F F') : Two7 LD W w' q qr sd' sr F' G v ps := by
  have hs := h.below.size
  refine ⟨hl, h.rd.keep hm.size (fun k hk => hm.block k (h.rd.glt k hk) (fun e => h.ap k e hk)), hf, h.fr, fun k hk hG => ?_, fun k hk => ?_, h.hG, h.below.trans (hm.below hs h.hF)⟩
  · rcases hm.sub k hk with h1 | h1
    · exact h.ap k h1 hG
    · have := h.rd.glt k hG
      omega
  · rcases hm.sub k hk with h1 | h1
    · exact h.hF k h1
    · omega
theorem Two7.ref {LD : Rep} (S : Specs7 LD) {W w w' : World} {q qr : Nat} {sd sr sr' : Dq.St} {F G : Nat → Prop} {v : Value} {ps : List (Dq.Fl × Value)} (h : Two7 LD W w q qr sd sr F G v ps) (hr : RefPost w qr sr' G w') (hf : Fine sr') : ∃ G' v' ps', Two7 LD W w' q qr sd sr' F G' v' ps' := by
  obtain ⟨G', v', ps', hr, hm⟩ := hr
  have hs := h.below.size
  refine ⟨G', v', ps', S.keep h.ld (fun k hk => hm.block k (S.lt h.ld hk) (h.ap k hk)), hr, h.fd, hf, fun k hk hG => ?_, h.hF, fun k hk => ?_, h.below.trans (hm.below hs h.hG)⟩
  · rcases hm.sub k hG with h1 | h1
    · exact h.ap k hk h1
    · have := S.lt h.ld hk
      omega
  · rcases hm.sub k hk with h1 | h1
    · exact h.hG k h1
    · omega
theorem Two7.later {LD : Rep} (S : Specs7 LD) {W w w' : World} {q qr : Nat} {sd sr : Dq.St} {F G : Nat → Prop} {v : Value} {ps : List (Dq.Fl × Value)} (h : Two7 LD W w q qr sd sr F G v ps) (hb : Below w.heap.size w w') : Two7 LD W w' q qr sd sr F G v ps :=
  ⟨S.keep h.ld (fun k hk => hb.block k (S.lt h.ld hk)), h.rd.below hb, h.fd, h.fr, h.ap, h.hF, h.hG, h.below.trans (hb.mono h.below.size)⟩

theorem Ss.moved {w w' : World} {F F' : Nat → Prop} {u : Value} {ts : List ByteArray} (h : Ss w u ts) (hm : Moved w w' F F') (ha : 0 < ts.length → ∀ k, u.ownBlock = some k → ¬ F k) : Ss w' u ts := by
  obtain ⟨av, k, c, rfl, hk, hc⟩ := h
  refine ⟨av, k, c, rfl, hk, fun j s hs => ?_⟩
  obtain ⟨g, o, rfl, hcell⟩ := hc j s hs
  have h0 : 0 < ts.length := by have := (List.getElem?_eq_some_iff.1 hs).1; omega
  exact ⟨g, o, rfl, (World.cell?_of_block (hm.block g (World.block_lt_of_cell? w _ hcell) (ha h0 g rfl))).trans hcell⟩
theorem ssApart_moved {w w' : World} {F F' : Nat → Prop} {u : Value} {ts : List ByteArray} (h : Ss w u ts) (hm : Moved w w' F F') (ha : 0 < ts.length → ∀ k, u.ownBlock = some k → ¬ F k) : 0 < ts.length → ∀ k, u.ownBlock = some k → ¬ F' k := fun h0 k hk hF => by
  rcases hm.sub k hF with h1 | h1
  · exact ha h0 k hk h1
  · obtain ⟨av, m, c, rfl, _, hc⟩ := h
    obtain ⟨g, o, rfl, hcell⟩ := hc 0 ts[0] (List.getElem?_eq_getElem h0)
    have hlt := World.block_lt_of_cell? w _ hcell
    simp only [Value.ownBlock, Option.some.injEq] at hk
    subst hk
    simp only [] at hlt
    omega

/-- What 'same' has under way. -/
structure SameS7 (LD : Rep) (W w : World) (q qr : Nat) (st : Dq.St) (F G : Nat → Prop) (v : Value) (ps : List (Dq.Fl × Value)) (va vb : Value) (xs : List UInt8) (vl : Value) (ts : List ByteArray) : Prop where
  t : Two7 LD W w q qr st st F G v ps
  ba : Bs w va xs
  aa : Apart F va xs
  bb : Bs w vb xs
  gb : Apart F vb xs
  sl : Ss w vl ts
  al : 0 < ts.length → ∀ k, vl.ownBlock = some k → ¬ F k

theorem SameS7.landed {LD : Rep} {W w w' : World} {q qr : Nat} {st : Dq.St} {F F' G : Nat → Prop} {v : Value} {ps : List (Dq.Fl × Value)} {va vb vl : Value} {xs : List UInt8} {ts : List ByteArray} (h : SameS7 LD W w q qr st F G v ps va vb xs vl ts) (hl : LD w' q st F') (hm : Moved w w' F F') : SameS7 LD W w' q qr st F' G v ps va vb xs vl ts :=
  ⟨h.t.landed hl h.t.fd hm, (h.aa.moved h.ba hm).1, (h.aa.moved h.ba hm).2, (h.gb.moved h.bb hm).1, (h.gb.moved h.bb hm).2, h.sl.moved hm h.al, ssApart_moved h.sl hm h.al⟩

set_option maxRecDepth 20000 in
set_option maxHeartbeats 8000000 in
theorem same_any7 {LD : Rep} (S : Specs7 LD) (W : World) (q qr : Nat) (st : Dq.St) (F G : Nat → Prop) (v : Value) (ps : List (Dq.Fl × Value)) (s : ByteArray) (w : World) (hT : Two7 LD W w q qr st st F G v ps) (hs : s.size ≤ 9223372036854775807) :
    Calls Try.prog 28 #[dptr q, dptr qr, .string s] w fun e w' => e = .returned (.bool true) ∧ ∃ F', Two7 LD W w' q qr st st F' G v ps := by
  have HS : Hid (Specs7 LD) := S
  have HT : Hid (Two7 LD W w q qr st st F G v ps) := hT
  obtain ⟨xs, er, hxs⟩ : ∃ xs er, Dq.read st s = (xs, er) := ⟨_, _, rfl⟩
  have HX : Hid (Dq.read st s = (xs, er)) := hxs
  obtain ⟨av, n, cv, rfl, hn, hcv, hns⟩ := hT.rd.begin
  have HN : Hid (n = ps.length ∧ n = st.fs.length) := ⟨hn, hns⟩
  have hn1 : n ≤ 1000 := by rw [hns]; exact hT.fd.2.1
  clear S hT hxs hn hns
  go_enter Try.func28, Try.ntmps28
  go_wp2_with fail
  refine (HS.out.read q st F s w HT.out.ld HT.out.fd).mono ?_
  rintro e w1 ⟨F1, va, rfl, hba, haa, hl, hm⟩
  rw [HX.out] at hba haa ⊢
  simp only [] at hba haa ⊢
  have HT1 : Hid (Two7 LD W w1 q qr st st F1 G (.slice av n cv) ps ∧ Bs w1 va xs ∧ Apart F1 va xs) := ⟨HT.out.landed hl HT.out.fd hm, hba, haa⟩
  clear hba haa hl hm
  go_wp2_with fail
  refine (refRead_any qr st G _ ps s _ HT1.out.1.rd HT1.out.1.fr hs).mono ?_
  rintro e w2 ⟨vb, rfl, hbb, hw, hgb⟩
  rw [hw, HX.out] at hbb
  rw [hw, HX.out]
  simp only [] at hbb ⊢
  have HBB : Hid (Bs w1 vb xs ∧ Apart F1 vb xs) := ⟨hbb, fun _ k hk hF => HT1.out.1.ap k hF (hgb k hk)⟩
  clear hbb hw hgb
  have hc2 := HT1.out.1.rd.c2
  cases hoff : st.off with
  | true =>
    rw [hoff] at hc2
    have HNM : Hid (Dq.names st = [] ∧ Dq.sizeOf st = 0 ∧ st.off = true) := ⟨by unfold Dq.names; rw [hoff]; rfl, by unfold Dq.sizeOf; rw [hoff]; rfl, hoff⟩
    clear hoff
    have HSS : Hid (SameS7 LD W w1.drew q qr st F1 G (.slice av n cv) ps va vb xs (.slice none 0 0) (Dq.names st)) := by
      refine ⟨HT1.out.1.later HS.out (Below.refl _ _).drew, HT1.out.2.1.below (Below.refl _ _).drew, HT1.out.2.2, HBB.out.1.below (Below.refl _ _).drew, HBB.out.2, ?_, ?_⟩
      · rw [HNM.out.1]
        exact ⟨_, _, _, rfl, rfl, fun j s hs => by simp at hs⟩
      · rw [HNM.out.1]
        exact fun h => absurd h (by simp)
    go_wp2
    clear hc2
    refine wp_region_held_drew (S := fun w' => Bs w' va xs ∧ Bs w' vb xs ∧ w'.cell? ⟨qr, 2, none⟩ = some (.bool st.off) ∧ w'.cell? ⟨qr, 3, none⟩ = some (.int .i64 (st.lives : Int))) (by kernel_rfl) ⟨HSS.out.ba, HSS.out.bb, HSS.out.t.rd.c2, HSS.out.t.rd.c3⟩ (fun _ => ?_)
    generalize w1.drew = wX at *
    have HSX : Hid (Bs wX va xs ∧ Bs wX vb xs ∧ wX.cell? ⟨qr, 2, none⟩ = some (.bool st.off) ∧ wX.cell? ⟨qr, 3, none⟩ = some (.int .i64 (st.lives : Int))) := ⟨HSS.out.ba, HSS.out.bb, HSS.out.t.rd.c2, HSS.out.t.rd.c3⟩
    obtain ⟨X, hX⟩ : ∃ z : ByteArray, z = ⟨xs.toArray⟩ := ⟨_, rfl⟩
    have HXB : Hid (∀ w' u, Bs w' u xs → (convert 28 9 u).run Try.prog w' = .ok (.string X) w') := fun w' u h => by rw [hX]; exact h.conv
    clear hX
    have hxx : (X.toList == X.toList) = true := by simp
    obtain ⟨OF, hOF⟩ : ∃ z, z = st.off := ⟨_, rfl⟩
    have HOF : Hid (OF = st.off) := hOF
    obtain ⟨LV, hLV⟩ : ∃ z, z = st.lives := ⟨_, rfl⟩
    have HLV : Hid (LV = st.lives) := hLV
    obtain ⟨SZ, hSZ⟩ : ∃ z, z = Dq.sizeOf st := ⟨_, rfl⟩
    have HSZ : Hid (SZ = Dq.sizeOf st) := hSZ
    simp only [← hOF, ← hLV] at HSX ⊢
    have hsz0 : SZ = 0 := by rw [hSZ]; exact HNM.out.2.1
    have hsz : ((SZ : Int) == 0) = true := by simp [hsz0]
    have hsz2 : (SZ : Int) = 0 := by omega
    clear hsz0
    clear hOF hLV hSZ
    have hoo : (OF == OF) = true := by simp
    have hbb : ((!OF) == (!OF)) = true := by simp
    refine' take_at (i := 0) (d := 53) (v := _) rfl rfl (by kernel_rfl) (by kernel_rfl) (by kernel_rfl) (fun _ _ _ h => h) (Or.inl ⟨by rfl, ?h0⟩) HSX.out ?_
    case h0 => intro w hSw; go_simp; with_reducible rfl
    simp only [List.setIfInBounds_toArray, List.set_cons_zero, List.set_cons_succ]
    refine' take_at (i := 1) (d := 54) (v := _) rfl rfl (by kernel_rfl) (by kernel_rfl) (by kernel_rfl) (fun _ _ _ h => h) (Or.inl ⟨by rfl, ?h1⟩) HSX.out ?_
    case h1 => intro w hSw; go_simp; with_reducible rfl
    simp only [List.setIfInBounds_toArray, List.set_cons_zero, List.set_cons_succ]
    refine' take_at (i := 2) (d := 55) (v := _) rfl rfl (by kernel_rfl) (by kernel_rfl) (by kernel_rfl) (fun _ _ _ h => h) (Or.inl ⟨by rfl, ?h2⟩) HSX.out ?_
    case h2 => intro w hSw; go_simp; with_reducible rfl
    simp only [List.setIfInBounds_toArray, List.set_cons_zero, List.set_cons_succ]
    refine' take_at (i := 3) (d := 56) (v := _) rfl rfl (by kernel_rfl) (by kernel_rfl) (by kernel_rfl) (fun _ _ _ h => h) (Or.inl ⟨by rfl, ?h3⟩) HSX.out ?_
    case h3 => intro w hSw; go_simp; with_reducible rfl
    simp only [List.setIfInBounds_toArray, List.set_cons_zero, List.set_cons_succ]
    refine' take_at (i := 4) (d := 57) (v := _) rfl rfl (by kernel_rfl) (by kernel_rfl) (by kernel_rfl) (fun _ _ _ h => h) (Or.inl ⟨by rfl, ?h4⟩) HSX.out ?_
    case h4 => intro w hSw; go_simp; with_reducible rfl
    simp only [List.setIfInBounds_toArray, List.set_cons_zero, List.set_cons_succ]
    refine' take_at (i := 5) (d := 58) (v := _) rfl rfl (by kernel_rfl) (by kernel_rfl) (by kernel_rfl) (fun _ _ _ h => h) (Or.inl ⟨by rfl, ?h5⟩) HSX.out ?_
    case h5 => intro w hSw; have hcv := HXB.out _ _ hSw.1; go_simp; with_reducible rfl
    simp only [List.setIfInBounds_toArray, List.set_cons_zero, List.set_cons_succ]
    refine' take_at (i := 6) (d := 59) (v := _) rfl rfl (by kernel_rfl) (by kernel_rfl) (by kernel_rfl) (fun _ _ _ h => h) (Or.inl ⟨by rfl, ?h6⟩) HSX.out ?_
    case h6 => intro w hSw; go_simp; with_reducible rfl
    simp only [List.setIfInBounds_toArray, List.set_cons_zero, List.set_cons_succ]
    refine' take_at (i := 7) (d := 60) (v := _) rfl rfl (by kernel_rfl) (by kernel_rfl) (by kernel_rfl) (fun _ _ _ h => h) (Or.inl ⟨by rfl, ?h7⟩) HSX.out ?_
    case h7 => intro w hSw; have hcv := HXB.out _ _ hSw.2.1; go_simp; with_reducible rfl
    simp only [List.setIfInBounds_toArray, List.set_cons_zero, List.set_cons_succ]
    refine' take_at (i := 8) (d := 61) (v := _) rfl rfl (by kernel_rfl) (by kernel_rfl) (by kernel_rfl) (fun _ _ _ h => h) (Or.inl ⟨by rfl, ?h8⟩) HSX.out ?_
    case h8 => intro w hSw; go_simp; with_reducible rfl
    simp only [List.setIfInBounds_toArray, List.set_cons_zero, List.set_cons_succ]
    refine' take_at (i := 9) (d := 62) (v := _) rfl rfl (by kernel_rfl) (by kernel_rfl) (by kernel_rfl) (fun _ _ _ h => h) (Or.inl ⟨by rfl, ?h9⟩) HSX.out ?_
    case h9 => intro w hSw; go_simp; with_reducible rfl
    simp only [List.setIfInBounds_toArray, List.set_cons_zero, List.set_cons_succ]
    refine' take_at (i := 10) (d := 63) (v := _) rfl rfl (by kernel_rfl) (by kernel_rfl) (by kernel_rfl) (fun _ _ _ h => h) (Or.inl ⟨by rfl, ?h10⟩) HSX.out ?_
    case h10 => intro w hSw; go_simp; with_reducible rfl
    simp only [List.setIfInBounds_toArray, List.set_cons_zero, List.set_cons_succ]
    refine' take_at (i := 11) (d := 64) (v := _) rfl rfl (by kernel_rfl) (by kernel_rfl) (by kernel_rfl) (fun _ _ _ h => h) (Or.inl ⟨by rfl, ?h11⟩) HSX.out ?_
    case h11 => intro w hSw; go_simp; with_reducible rfl
    simp only [List.setIfInBounds_toArray, List.set_cons_zero, List.set_cons_succ]
    refine' take_at (i := 13) (d := 66) (v := _) rfl rfl (by kernel_rfl) (by kernel_rfl) (by kernel_rfl) (fun _ _ _ h => h) (Or.inl ⟨by rfl, ?h13⟩) HSX.out ?_
    case h13 => intro w hSw; go_simp; with_reducible rfl
    simp only [List.setIfInBounds_toArray, List.set_cons_zero, List.set_cons_succ]
    refine' take_at (i := 14) (d := 67) (v := _) rfl rfl (by kernel_rfl) (by kernel_rfl) (by kernel_rfl) (fun _ _ _ h => h) (Or.inl ⟨by rfl, ?h14⟩) HSX.out ?_
    case h14 => intro w hSw; go_simp; with_reducible rfl
    simp only [List.setIfInBounds_toArray, List.set_cons_zero, List.set_cons_succ]
    refine' take_at (i := 15) (d := 68) (v := _) rfl rfl (by kernel_rfl) (by kernel_rfl) (by kernel_rfl) (fun _ _ _ h => h) (Or.inl ⟨by rfl, ?h15⟩) HSX.out ?_
    case h15 => intro w hSw; go_simp; with_reducible rfl
    simp only [List.setIfInBounds_toArray, List.set_cons_zero, List.set_cons_succ]
    refine' take_at (i := 16) (d := 69) (v := _) rfl rfl (by kernel_rfl) (by kernel_rfl) (by kernel_rfl) (fun _ _ _ h => h) (Or.inl ⟨by rfl, ?h16⟩) HSX.out ?_
    case h16 => intro w hSw; have hcc := hSw.2.2.1; go_simp; with_reducible rfl
    simp only [List.setIfInBounds_toArray, List.set_cons_zero, List.set_cons_succ]
    refine' take_at (i := 17) (d := 70) (v := _) rfl rfl (by kernel_rfl) (by kernel_rfl) (by kernel_rfl) (fun _ _ _ h => h) (Or.inl ⟨by rfl, ?h17⟩) HSX.out ?_
    case h17 => intro w hSw; go_simp; with_reducible rfl
    simp only [List.setIfInBounds_toArray, List.set_cons_zero, List.set_cons_succ]
    refine wpAnyH_ready (rs := [12]) (by kernel_rfl) (by simp) ?_
    refine AllReadyH.cons (o := _) rfl (fun K hK => ?_) AllReadyH.nil
    go_simp
    refine (HS.out.power q st _ _ HSS.out.t.ld HSS.out.t.fd).mono ?_
    rintro e wP ⟨FwP, rfl, hl, hm⟩
    have HwP : Hid (SameS7 LD W wP q qr st FwP G (.slice av n cv) ps va vb xs (.slice none 0 0) (Dq.names st)) := HSS.out.landed hl hm
    have HSwP : Hid (Bs wP va xs ∧ Bs wP vb xs ∧ wP.cell? ⟨qr, 2, none⟩ = some (.bool OF) ∧ wP.cell? ⟨qr, 3, none⟩ = some (.int .i64 (LV : Int))) := by
      rw [HOF.out, HLV.out]
      exact ⟨HwP.out.ba, HwP.out.bb, HwP.out.t.rd.c2, HwP.out.t.rd.c3⟩
    clear hl hm
    simp only [← HOF.out]
    refine hK.out _ _ HSwP.out (fun _ => ?_)
    clear hK K
    refine' take_at (i := 18) (d := 71) (v := _) rfl rfl (by kernel_rfl) (by kernel_rfl) (by kernel_rfl) (fun _ _ _ h => h) (Or.inl ⟨by rfl, ?h18⟩) HSwP.out ?_
    case h18 => intro w hSw; go_simp; with_reducible rfl
    simp only [List.setIfInBounds_toArray, List.set_cons_zero, List.set_cons_succ]
    refine' take_at (i := 19) (d := 72) (v := _) rfl rfl (by kernel_rfl) (by kernel_rfl) (by kernel_rfl) (fun _ _ _ h => h) (Or.inl ⟨by rfl, ?h19⟩) HSwP.out ?_
    case h19 => intro w hSw; go_simp; with_reducible rfl
    simp only [List.setIfInBounds_toArray, List.set_cons_zero, List.set_cons_succ]
    refine' take_at (i := 20) (d := 73) (v := _) rfl rfl (by kernel_rfl) (by kernel_rfl) (by kernel_rfl) (fun _ _ _ h => h) (Or.inl ⟨by rfl, ?h20⟩) HSwP.out ?_
    case h20 => intro w hSw; go_simp; with_reducible rfl
    simp only [List.setIfInBounds_toArray, List.set_cons_zero, List.set_cons_succ]
    refine' take_at (i := 21) (d := 74) (v := _) rfl rfl (by kernel_rfl) (by kernel_rfl) (by kernel_rfl) (fun _ _ _ h => h) (Or.inl ⟨by rfl, ?h21⟩) HSwP.out ?_
    case h21 => intro w hSw; go_simp; with_reducible rfl
    simp only [List.setIfInBounds_toArray, List.set_cons_zero, List.set_cons_succ]
    refine' take_at (i := 23) (d := 76) (v := _) rfl rfl (by kernel_rfl) (by kernel_rfl) (by kernel_rfl) (fun _ _ _ h => h) (Or.inl ⟨by rfl, ?h23⟩) HSwP.out ?_
    case h23 => intro w hSw; go_simp; with_reducible rfl
    simp only [List.setIfInBounds_toArray, List.set_cons_zero, List.set_cons_succ]
    refine' take_at (i := 24) (d := 77) (v := _) rfl rfl (by kernel_rfl) (by kernel_rfl) (by kernel_rfl) (fun _ _ _ h => h) (Or.inl ⟨by rfl, ?h24⟩) HSwP.out ?_
    case h24 => intro w hSw; go_simp; with_reducible rfl
    simp only [List.setIfInBounds_toArray, List.set_cons_zero, List.set_cons_succ]
    refine' take_at (i := 25) (d := 78) (v := _) rfl rfl (by kernel_rfl) (by kernel_rfl) (by kernel_rfl) (fun _ _ _ h => h) (Or.inl ⟨by rfl, ?h25⟩) HSwP.out ?_
    case h25 => intro w hSw; go_simp; with_reducible rfl
    simp only [List.setIfInBounds_toArray, List.set_cons_zero, List.set_cons_succ]
    refine' take_at (i := 26) (d := 79) (v := _) rfl rfl (by kernel_rfl) (by kernel_rfl) (by kernel_rfl) (fun _ _ _ h => h) (Or.inl ⟨by rfl, ?h26⟩) HSwP.out ?_
    case h26 => intro w hSw; have hcc := hSw.2.2.2; go_simp; with_reducible rfl
    simp only [List.setIfInBounds_toArray, List.set_cons_zero, List.set_cons_succ]
    refine wpAnyH_ready (rs := [22]) (by kernel_rfl) (by simp) ?_
    refine AllReadyH.cons (o := _) rfl (fun K hK => ?_) AllReadyH.nil
    go_simp
    refine (HS.out.lives q st _ _ HwP.out.t.ld HwP.out.t.fd).mono ?_
    rintro e wL ⟨FwL, rfl, hl, hm⟩
    have HwL : Hid (SameS7 LD W wL q qr st FwL G (.slice av n cv) ps va vb xs (.slice none 0 0) (Dq.names st)) := HwP.out.landed hl hm
    have HSwL : Hid (Bs wL va xs ∧ Bs wL vb xs ∧ wL.cell? ⟨qr, 2, none⟩ = some (.bool OF) ∧ wL.cell? ⟨qr, 3, none⟩ = some (.int .i64 (LV : Int))) := by
      rw [HOF.out, HLV.out]
      exact ⟨HwL.out.ba, HwL.out.bb, HwL.out.t.rd.c2, HwL.out.t.rd.c3⟩
    clear hl hm
    simp only [← HLV.out]
    refine hK.out _ _ HSwL.out (fun _ => ?_)
    clear hK K
    refine' take_at (i := 27) (d := 80) (v := _) rfl rfl (by kernel_rfl) (by kernel_rfl) (by kernel_rfl) (fun _ _ _ h => h) (Or.inl ⟨by rfl, ?h27⟩) HSwL.out ?_
    case h27 => intro w hSw; go_simp; with_reducible rfl
    simp only [List.setIfInBounds_toArray, List.set_cons_zero, List.set_cons_succ]
    refine' take_at (i := 28) (d := 81) (v := _) rfl rfl (by kernel_rfl) (by kernel_rfl) (by kernel_rfl) (fun _ _ _ h => h) (Or.inl ⟨by rfl, ?h28⟩) HSwL.out ?_
    case h28 => intro w hSw; go_simp; with_reducible rfl
    simp only [List.setIfInBounds_toArray, List.set_cons_zero, List.set_cons_succ]
    refine' take_at (i := 29) (d := 82) (v := _) rfl rfl (by kernel_rfl) (by kernel_rfl) (by kernel_rfl) (fun _ _ _ h => h) (Or.inl ⟨by rfl, ?h29⟩) HSwL.out ?_
    case h29 => intro w hSw; go_simp; with_reducible rfl
    simp only [List.setIfInBounds_toArray, List.set_cons_zero, List.set_cons_succ]
    refine' take_at (i := 30) (d := 83) (v := _) rfl rfl (by kernel_rfl) (by kernel_rfl) (by kernel_rfl) (fun _ _ _ h => h) (Or.inl ⟨by rfl, ?h30⟩) HSwL.out ?_
    case h30 => intro w hSw; go_simp; with_reducible rfl
    simp only [List.setIfInBounds_toArray, List.set_cons_zero, List.set_cons_succ]
    refine' take_at (i := 32) (d := 85) (v := _) rfl rfl (by kernel_rfl) (by kernel_rfl) (by kernel_rfl) (fun _ _ _ h => h) (Or.inl ⟨by rfl, ?h32⟩) HSwL.out ?_
    case h32 => intro w hSw; go_simp; with_reducible rfl
    simp only [List.setIfInBounds_toArray, List.set_cons_zero, List.set_cons_succ]
    refine wpAnyH_ready (rs := [31]) (by kernel_rfl) (by simp) ?_
    refine AllReadyH.cons (o := _) rfl (fun K hK => ?_) AllReadyH.nil
    go_simp
    refine (HS.out.size q st _ _ HwL.out.t.ld HwL.out.t.fd).mono ?_
    rintro e wS ⟨FwS, rfl, hl, hm⟩
    have HwS : Hid (SameS7 LD W wS q qr st FwS G (.slice av n cv) ps va vb xs (.slice none 0 0) (Dq.names st)) := HwL.out.landed hl hm
    have HSwS : Hid (Bs wS va xs ∧ Bs wS vb xs ∧ wS.cell? ⟨qr, 2, none⟩ = some (.bool OF) ∧ wS.cell? ⟨qr, 3, none⟩ = some (.int .i64 (LV : Int))) := by
      rw [HOF.out, HLV.out]
      exact ⟨HwS.out.ba, HwS.out.bb, HwS.out.t.rd.c2, HwS.out.t.rd.c3⟩
    clear hl hm
    simp only [← HSZ.out]
    refine hK.out _ _ HSwS.out (fun _ => ?_)
    clear hK K
    refine' take_at (i := 33) (d := 86) (v := _) rfl rfl (by kernel_rfl) (by kernel_rfl) (by kernel_rfl) (fun _ _ _ h => h) (Or.inl ⟨by rfl, ?h33⟩) HSwS.out ?_
    case h33 => intro w hSw; go_simp; with_reducible rfl
    simp only [List.setIfInBounds_toArray, List.set_cons_zero, List.set_cons_succ]
    refine' take_at (i := 34) (d := 87) (v := _) rfl rfl (by kernel_rfl) (by kernel_rfl) (by kernel_rfl) (fun _ _ _ h => h) (Or.inl ⟨by rfl, ?h34⟩) HSwS.out ?_
    case h34 => intro w hSw; go_simp; with_reducible rfl
    simp only [List.setIfInBounds_toArray, List.set_cons_zero, List.set_cons_succ]
    refine' take_at (i := 35) (d := 88) (v := _) rfl rfl (by kernel_rfl) (by kernel_rfl) (by kernel_rfl) (fun _ _ _ h => h) (Or.inl ⟨by rfl, ?h35⟩) HSwS.out ?_
    case h35 => intro w hSw; go_simp; with_reducible rfl
    simp only [List.setIfInBounds_toArray, List.set_cons_zero, List.set_cons_succ]
    refine' take_at (i := 36) (d := 89) (v := _) rfl rfl (by kernel_rfl) (by kernel_rfl) (by kernel_rfl) (fun _ _ _ h => h) (Or.inl ⟨by rfl, ?h36⟩) HSwS.out ?_
    case h36 => intro w hSw; go_simp; with_reducible rfl
    simp only [List.setIfInBounds_toArray, List.set_cons_zero, List.set_cons_succ]
    refine' take_at (i := 38) (d := 91) (v := _) rfl rfl (by kernel_rfl) (by kernel_rfl) (by kernel_rfl) (fun _ _ _ h => h) (Or.inl ⟨by rfl, ?h38⟩) HSwS.out ?_
    case h38 => intro w hSw; go_simp; with_reducible rfl
    simp only [List.setIfInBounds_toArray, List.set_cons_zero, List.set_cons_succ]
    refine wpAnyH_ready (rs := [37]) (by kernel_rfl) (by simp) ?_
    refine AllReadyH.cons (o := _) rfl (fun K hK => ?_) AllReadyH.nil
    go_simp
    refine (HS.out.names q st _ _ HwS.out.t.ld HwS.out.t.fd).mono ?_
    rintro e wN ⟨FwN, vn, rfl, hss, hl, hm⟩
    have HwN : Hid (SameS7 LD W wN q qr st FwN G (.slice av n cv) ps va vb xs (.slice none 0 0) (Dq.names st) ∧ Ss wN vn (Dq.names st)) := ⟨HwS.out.landed hl hm, hss⟩
    have HSwN : Hid (Bs wN va xs ∧ Bs wN vb xs ∧ wN.cell? ⟨qr, 2, none⟩ = some (.bool OF) ∧ wN.cell? ⟨qr, 3, none⟩ = some (.int .i64 (LV : Int))) := by
      rw [HOF.out, HLV.out]
      exact ⟨HwN.out.1.ba, HwN.out.1.bb, HwN.out.1.t.rd.c2, HwN.out.1.t.rd.c3⟩
    clear hl hm hss
    refine hK.out _ _ HSwN.out (fun _ => ?_)
    clear hK K
    refine wpAnyH_ready (rs := [39]) (by kernel_rfl) (by simp) ?_
    refine AllReadyH.cons (o := _) rfl (fun K hK => ?_) AllReadyH.nil
    go_simp
    have HLE : Hid ((Dq.names st).length ≤ 1000) := by
      have h : (Dq.names st).length ≤ 1000 := by
        have := HwN.out.1.t.fd.2.1
        unfold Dq.names
        split
        · simp
        · rw [List.length_map]; exact this
      exact h
    refine (refSameT_any vn _ (Dq.names st) (Dq.names st) _ HwN.out.2 HwN.out.1.sl HLE.out HLE.out).mono ?_
    rintro e wQ ⟨rfl, hbq⟩
    rw [decide_eq_true rfl]
    have HFIN : Hid (Two7 LD W wQ q qr st st FwN G (.slice av n cv) ps) := HwN.out.1.t.later HS.out hbq
    have HSwQ : Hid (Bs wQ va xs ∧ Bs wQ vb xs ∧ wQ.cell? ⟨qr, 2, none⟩ = some (.bool OF) ∧ wQ.cell? ⟨qr, 3, none⟩ = some (.int .i64 (LV : Int))) := ⟨HSwN.out.1.below hbq, HSwN.out.2.1.below hbq, Below.kept hbq HSwN.out.2.2.1, Below.kept hbq HSwN.out.2.2.2⟩
    clear hbq
    refine hK.out _ _ HSwQ.out (fun _ => ?_)
    clear hK K
    refine' take_at (i := 40) (d := 93) (v := _) rfl rfl (by kernel_rfl) (by kernel_rfl) (by kernel_rfl) (fun _ _ _ h => h) (Or.inl ⟨by rfl, ?h40⟩) HSwQ.out ?_
    case h40 => intro w hSw; go_simp; with_reducible rfl
    simp only [List.setIfInBounds_toArray, List.set_cons_zero, List.set_cons_succ]
    refine wpAnyH_ready (rs := [41]) (by kernel_rfl) (by simp) ?_
    refine AllReadyH.cons (o := _) rfl (fun K hK => ?_) AllReadyH.nil
    go_simp
    refine hK.out _ _ HSwQ.out (fun _ => ?_)
    clear hK K
    refine wpAnyH_done (by kernel_rfl) ?_ _
    go_wp2
    go_ret
    exact ⟨rfl, _, HFIN.out⟩
  | false =>
    rw [hoff] at hc2
    have HNM : Hid (Dq.names st = st.fs.map (·.name) ∧ Dq.sizeOf st = Dq.size st.fs ∧ st.off = false) := ⟨by unfold Dq.names; rw [hoff]; rfl, by unfold Dq.sizeOf; rw [hoff]; rfl, hoff⟩
    clear hoff
    go_wp2_with fail
    clear hc2
    refine (refSize_any qr st G _ ps _ HT1.out.1.rd HT1.out.1.fr).mono ?_
    rintro e w2 ⟨rfl, hw⟩
    rw [hw, ← HNM.out.2.1]
    clear hw
    obtain ⟨b, hb⟩ : ∃ z, z = w1.heap.size := ⟨_, rfl⟩
    have HB : Hid (b = w1.heap.size) := hb
    clear hb
    go_wp2
    go_loopw [11, 13] (fun l i wr => ∃ k : Nat, k ≤ n ∧ i = .int .i64 (k : Int) ∧ wr.ownsRow b 9 1 l ((st.fs.take k).map (·.name)).length (sc ((st.fs.take k).map (·.name))) ∧ Below b w1 wr) (fun _ i _ => ((n : Int) - intOf i).toNat)
    case atStart => exact ⟨0, Nat.zero_le _, rfl, World.ownsRow_nil _ _ _ _, Below.refl _ _⟩
    case round =>
      obtain ⟨k, hk, rfl, ho, hbw⟩ := hrel
      have HO : Hid (wr.ownsRow b 9 1 u11 ((st.fs.take k).map (·.name)).length (sc ((st.fs.take k).map (·.name)))) := ho
      have HBW : Hid (Below b w1 wr ∧ b ≤ wr.heap.size) := ⟨hbw, by rw [HB.out]; exact hbw.size⟩
      have HTR : Hid (Two7 LD W wr q qr st st F1 G (.slice av n cv) ps) := HT1.out.1.later HS.out (by rw [← HB.out]; exact hbw)
      clear ho hbw
      have hc1 := HTR.out.rd.c1
      by_cases hlt : k < n
      · have hlt' : (k : Int) < (n : Int) := by omega
        have hk0 : (0 : Int) ≤ (k : Int) := by omega
        obtain ⟨p, hp⟩ : ∃ p, ps[k]? = some p := ⟨ps[k]'(by rw [← HN.out.1]; exact hlt), List.getElem?_eq_getElem _⟩
        obtain ⟨g, cap, hv, hcap, _, _, f0, f1, f2, _⟩ := HTR.out.rd.fo.cell hp
        simp only [Value.slice.injEq] at hv
        obtain ⟨rfl, hq2, rfl⟩ := hv
        have HP : Hid ((st.fs.take (k + 1)).map (·.name) = (st.fs.take k).map (·.name) ++ [p.1.name]) := by
          have h : (st.fs.take (k + 1)).map (·.name) = (st.fs.take k).map (·.name) ++ [p.1.name] := by
            rw [List.take_add_one, HTR.out.rd.file hp, List.map_append]
            rfl
          exact h
        have HLN : Hid (((st.fs.take k).map (·.name)).length ≤ 1000) := by
          have h : ((st.fs.take k).map (·.name)).length ≤ 1000 := by rw [List.length_map, List.length_take]; omega
          exact h
        obtain ⟨ls, hls⟩ : ∃ z, z = (st.fs.take k).map (·.name) := ⟨_, rfl⟩
        rw [← hls] at HO HP HLN
        clear hls hq2 hp hcap
        have HA : Hid (Below b w1 (wr.alloc (.cells #[.string p.1.name] 9)) ∧ (wr.alloc (.cells #[.string p.1.name] 9)).ownsRow b 9 1 u11 ls.length (sc ls) ∧ Src (wr.alloc (.cells #[.string p.1.name] 9)) (.slice (some ⟨wr.heap.size, 0, none⟩) 1 1) [p.1.name] ∧ b ≤ (wr.alloc (.cells #[.string p.1.name] 9)).heap.size) := ⟨HBW.out.1.alloc HBW.out.2 _, HO.out.alloc _, Src.one wr p.1.name _, by rw [World.size_alloc]; have := HBW.out.2; omega⟩
        go_wp2_with (at_builtin; refine append_strs rfl _ _ rfl b u11 (.slice (some ⟨wr.heap.size, 0, none⟩) 1 1) ls [p.1.name] _ rfl rfl HA.out.2.1 HA.out.2.2.2 HA.out.2.2.1 (by have := HLN.out; simp only [List.length_cons, List.length_nil]; omega) ?_)
        intro v2 w3 ho2 hb2
        have HE : Hid (w3.ownsRow b 9 1 v2 ((st.fs.take (k + 1)).map (·.name)).length (sc ((st.fs.take (k + 1)).map (·.name))) ∧ Below b w1 w3) := by
          rw [HP.out]
          exact ⟨by rw [List.length_append]; exact ho2, HA.out.1.trans hb2⟩
        clear ho2 hb2 hc1 f0 f1 f2
        go_wp2
        go_roundw
        case rel => exact ⟨k + 1, by omega, by go_num, HE.out.1, HE.out.2⟩
        case measure => simp [intOf]; omega
      · have hlt' : ¬ (k : Int) < (n : Int) := by omega
        have HSS : Hid (SameS7 LD W wr.drew q qr st F1 G (.slice av n cv) ps va vb xs u11 (Dq.names st)) := by
          have hbw : Below w1.heap.size w1 wr := by rw [← HB.out]; exact HBW.out.1
          have ho := HO.out
          rw [List.take_of_length_le (by rw [← HN.out.2]; omega), ← HNM.out.1] at ho
          have hss : Ss wr u11 (Dq.names st) := by
            rcases ho.2 with ⟨rfl, h0⟩ | ⟨g, cap, cur, rfl, _, _, hnn, _⟩
            · exact ⟨_, _, _, rfl, h0.symm, fun j s hs => by have := (List.getElem?_eq_some_iff.1 hs).1; omega⟩
            · refine ⟨_, _, _, rfl, rfl, fun j s hs => ⟨g, 0, rfl, ?_⟩⟩
              have hj := (List.getElem?_eq_some_iff.1 hs).1
              rw [Nat.zero_add, ho.cellAt j (by omega)]
              unfold sc
              rw [List.getElem?_map, hs]
              rfl
          refine ⟨HTR.out.later HS.out (Below.refl _ _).drew, (HT1.out.2.1.below hbw).below (Below.refl _ _).drew, HT1.out.2.2, (HBB.out.1.below hbw).below (Below.refl _ _).drew, HBB.out.2, hss.below (Below.refl _ _).drew, fun _ k hk hF => ?_⟩
          have h1 := (ho.lt k hk).1
          have h2 := HS.out.lt HT1.out.1.ld hF
          rw [HB.out] at h1
          omega
        go_wp2
        clear hc1
        refine wp_region_held_drew (S := fun w' => Bs w' va xs ∧ Bs w' vb xs ∧ w'.cell? ⟨qr, 2, none⟩ = some (.bool st.off) ∧ w'.cell? ⟨qr, 3, none⟩ = some (.int .i64 (st.lives : Int))) (by kernel_rfl) ⟨HSS.out.ba, HSS.out.bb, HSS.out.t.rd.c2, HSS.out.t.rd.c3⟩ (fun _ => ?_)
        generalize wr.drew = wX at *
        have HSX : Hid (Bs wX va xs ∧ Bs wX vb xs ∧ wX.cell? ⟨qr, 2, none⟩ = some (.bool st.off) ∧ wX.cell? ⟨qr, 3, none⟩ = some (.int .i64 (st.lives : Int))) := ⟨HSS.out.ba, HSS.out.bb, HSS.out.t.rd.c2, HSS.out.t.rd.c3⟩
        obtain ⟨X, hX⟩ : ∃ z : ByteArray, z = ⟨xs.toArray⟩ := ⟨_, rfl⟩
        have HXB : Hid (∀ w' u, Bs w' u xs → (convert 28 9 u).run Try.prog w' = .ok (.string X) w') := fun w' u h => by rw [hX]; exact h.conv
        clear hX
        have hxx : (X.toList == X.toList) = true := by simp
        obtain ⟨OF, hOF⟩ : ∃ z, z = st.off := ⟨_, rfl⟩
        have HOF : Hid (OF = st.off) := hOF
        obtain ⟨LV, hLV⟩ : ∃ z, z = st.lives := ⟨_, rfl⟩
        have HLV : Hid (LV = st.lives) := hLV
        obtain ⟨SZ, hSZ⟩ : ∃ z, z = Dq.sizeOf st := ⟨_, rfl⟩
        have HSZ : Hid (SZ = Dq.sizeOf st) := hSZ
        simp only [← hOF, ← hLV] at HSX ⊢
        simp only [← hSZ]
        clear hOF hLV hSZ
        have hoo : (OF == OF) = true := by simp
        have hbb : ((!OF) == (!OF)) = true := by simp
        refine' take_at (i := 0) (d := 53) (v := _) rfl rfl (by kernel_rfl) (by kernel_rfl) (by kernel_rfl) (fun _ _ _ h => h) (Or.inl ⟨by rfl, ?h0⟩) HSX.out ?_
        case h0 => intro w hSw; go_simp; with_reducible rfl
        simp only [List.setIfInBounds_toArray, List.set_cons_zero, List.set_cons_succ]
        refine' take_at (i := 1) (d := 54) (v := _) rfl rfl (by kernel_rfl) (by kernel_rfl) (by kernel_rfl) (fun _ _ _ h => h) (Or.inl ⟨by rfl, ?h1⟩) HSX.out ?_
        case h1 => intro w hSw; go_simp; with_reducible rfl
        simp only [List.setIfInBounds_toArray, List.set_cons_zero, List.set_cons_succ]
        refine' take_at (i := 2) (d := 55) (v := _) rfl rfl (by kernel_rfl) (by kernel_rfl) (by kernel_rfl) (fun _ _ _ h => h) (Or.inl ⟨by rfl, ?h2⟩) HSX.out ?_
        case h2 => intro w hSw; go_simp; with_reducible rfl
        simp only [List.setIfInBounds_toArray, List.set_cons_zero, List.set_cons_succ]
        refine' take_at (i := 3) (d := 56) (v := _) rfl rfl (by kernel_rfl) (by kernel_rfl) (by kernel_rfl) (fun _ _ _ h => h) (Or.inl ⟨by rfl, ?h3⟩) HSX.out ?_
        case h3 => intro w hSw; go_simp; with_reducible rfl
        simp only [List.setIfInBounds_toArray, List.set_cons_zero, List.set_cons_succ]
        refine' take_at (i := 4) (d := 57) (v := _) rfl rfl (by kernel_rfl) (by kernel_rfl) (by kernel_rfl) (fun _ _ _ h => h) (Or.inl ⟨by rfl, ?h4⟩) HSX.out ?_
        case h4 => intro w hSw; go_simp; with_reducible rfl
        simp only [List.setIfInBounds_toArray, List.set_cons_zero, List.set_cons_succ]
        refine' take_at (i := 5) (d := 58) (v := _) rfl rfl (by kernel_rfl) (by kernel_rfl) (by kernel_rfl) (fun _ _ _ h => h) (Or.inl ⟨by rfl, ?h5⟩) HSX.out ?_
        case h5 => intro w hSw; have hcv := HXB.out _ _ hSw.1; go_simp; with_reducible rfl
        simp only [List.setIfInBounds_toArray, List.set_cons_zero, List.set_cons_succ]
        refine' take_at (i := 6) (d := 59) (v := _) rfl rfl (by kernel_rfl) (by kernel_rfl) (by kernel_rfl) (fun _ _ _ h => h) (Or.inl ⟨by rfl, ?h6⟩) HSX.out ?_
        case h6 => intro w hSw; go_simp; with_reducible rfl
        simp only [List.setIfInBounds_toArray, List.set_cons_zero, List.set_cons_succ]
        refine' take_at (i := 7) (d := 60) (v := _) rfl rfl (by kernel_rfl) (by kernel_rfl) (by kernel_rfl) (fun _ _ _ h => h) (Or.inl ⟨by rfl, ?h7⟩) HSX.out ?_
        case h7 => intro w hSw; have hcv := HXB.out _ _ hSw.2.1; go_simp; with_reducible rfl
        simp only [List.setIfInBounds_toArray, List.set_cons_zero, List.set_cons_succ]
        refine' take_at (i := 8) (d := 61) (v := _) rfl rfl (by kernel_rfl) (by kernel_rfl) (by kernel_rfl) (fun _ _ _ h => h) (Or.inl ⟨by rfl, ?h8⟩) HSX.out ?_
        case h8 => intro w hSw; go_simp; with_reducible rfl
        simp only [List.setIfInBounds_toArray, List.set_cons_zero, List.set_cons_succ]
        refine' take_at (i := 9) (d := 62) (v := _) rfl rfl (by kernel_rfl) (by kernel_rfl) (by kernel_rfl) (fun _ _ _ h => h) (Or.inl ⟨by rfl, ?h9⟩) HSX.out ?_
        case h9 => intro w hSw; go_simp; with_reducible rfl
        simp only [List.setIfInBounds_toArray, List.set_cons_zero, List.set_cons_succ]
        refine' take_at (i := 10) (d := 63) (v := _) rfl rfl (by kernel_rfl) (by kernel_rfl) (by kernel_rfl) (fun _ _ _ h => h) (Or.inl ⟨by rfl, ?h10⟩) HSX.out ?_
        case h10 => intro w hSw; go_simp; with_reducible rfl
        simp only [List.setIfInBounds_toArray, List.set_cons_zero, List.set_cons_succ]
        refine' take_at (i := 11) (d := 64) (v := _) rfl rfl (by kernel_rfl) (by kernel_rfl) (by kernel_rfl) (fun _ _ _ h => h) (Or.inl ⟨by rfl, ?h11⟩) HSX.out ?_
        case h11 => intro w hSw; go_simp; with_reducible rfl
        simp only [List.setIfInBounds_toArray, List.set_cons_zero, List.set_cons_succ]
        refine' take_at (i := 13) (d := 66) (v := _) rfl rfl (by kernel_rfl) (by kernel_rfl) (by kernel_rfl) (fun _ _ _ h => h) (Or.inl ⟨by rfl, ?h13⟩) HSX.out ?_
        case h13 => intro w hSw; go_simp; with_reducible rfl
        simp only [List.setIfInBounds_toArray, List.set_cons_zero, List.set_cons_succ]
        refine' take_at (i := 14) (d := 67) (v := _) rfl rfl (by kernel_rfl) (by kernel_rfl) (by kernel_rfl) (fun _ _ _ h => h) (Or.inl ⟨by rfl, ?h14⟩) HSX.out ?_
        case h14 => intro w hSw; go_simp; with_reducible rfl
        simp only [List.setIfInBounds_toArray, List.set_cons_zero, List.set_cons_succ]
        refine' take_at (i := 15) (d := 68) (v := _) rfl rfl (by kernel_rfl) (by kernel_rfl) (by kernel_rfl) (fun _ _ _ h => h) (Or.inl ⟨by rfl, ?h15⟩) HSX.out ?_
        case h15 => intro w hSw; go_simp; with_reducible rfl
        simp only [List.setIfInBounds_toArray, List.set_cons_zero, List.set_cons_succ]
        refine' take_at (i := 16) (d := 69) (v := _) rfl rfl (by kernel_rfl) (by kernel_rfl) (by kernel_rfl) (fun _ _ _ h => h) (Or.inl ⟨by rfl, ?h16⟩) HSX.out ?_
        case h16 => intro w hSw; have hcc := hSw.2.2.1; go_simp; with_reducible rfl
        simp only [List.setIfInBounds_toArray, List.set_cons_zero, List.set_cons_succ]
        refine' take_at (i := 17) (d := 70) (v := _) rfl rfl (by kernel_rfl) (by kernel_rfl) (by kernel_rfl) (fun _ _ _ h => h) (Or.inl ⟨by rfl, ?h17⟩) HSX.out ?_
        case h17 => intro w hSw; go_simp; with_reducible rfl
        simp only [List.setIfInBounds_toArray, List.set_cons_zero, List.set_cons_succ]
        refine wpAnyH_ready (rs := [12]) (by kernel_rfl) (by simp) ?_
        refine AllReadyH.cons (o := _) rfl (fun K hK => ?_) AllReadyH.nil
        go_simp
        refine (HS.out.power q st _ _ HSS.out.t.ld HSS.out.t.fd).mono ?_
        rintro e wP ⟨FwP, rfl, hl, hm⟩
        have HwP : Hid (SameS7 LD W wP q qr st FwP G (.slice av n cv) ps va vb xs u11 (Dq.names st)) := HSS.out.landed hl hm
        have HSwP : Hid (Bs wP va xs ∧ Bs wP vb xs ∧ wP.cell? ⟨qr, 2, none⟩ = some (.bool OF) ∧ wP.cell? ⟨qr, 3, none⟩ = some (.int .i64 (LV : Int))) := by
          rw [HOF.out, HLV.out]
          exact ⟨HwP.out.ba, HwP.out.bb, HwP.out.t.rd.c2, HwP.out.t.rd.c3⟩
        clear hl hm
        simp only [← HOF.out]
        refine hK.out _ _ HSwP.out (fun _ => ?_)
        clear hK K
        refine' take_at (i := 18) (d := 71) (v := _) rfl rfl (by kernel_rfl) (by kernel_rfl) (by kernel_rfl) (fun _ _ _ h => h) (Or.inl ⟨by rfl, ?h18⟩) HSwP.out ?_
        case h18 => intro w hSw; go_simp; with_reducible rfl
        simp only [List.setIfInBounds_toArray, List.set_cons_zero, List.set_cons_succ]
        refine' take_at (i := 19) (d := 72) (v := _) rfl rfl (by kernel_rfl) (by kernel_rfl) (by kernel_rfl) (fun _ _ _ h => h) (Or.inl ⟨by rfl, ?h19⟩) HSwP.out ?_
        case h19 => intro w hSw; go_simp; with_reducible rfl
        simp only [List.setIfInBounds_toArray, List.set_cons_zero, List.set_cons_succ]
        refine' take_at (i := 20) (d := 73) (v := _) rfl rfl (by kernel_rfl) (by kernel_rfl) (by kernel_rfl) (fun _ _ _ h => h) (Or.inl ⟨by rfl, ?h20⟩) HSwP.out ?_
        case h20 => intro w hSw; go_simp; with_reducible rfl
        simp only [List.setIfInBounds_toArray, List.set_cons_zero, List.set_cons_succ]
        refine' take_at (i := 21) (d := 74) (v := _) rfl rfl (by kernel_rfl) (by kernel_rfl) (by kernel_rfl) (fun _ _ _ h => h) (Or.inl ⟨by rfl, ?h21⟩) HSwP.out ?_
        case h21 => intro w hSw; go_simp; with_reducible rfl
        simp only [List.setIfInBounds_toArray, List.set_cons_zero, List.set_cons_succ]
        refine' take_at (i := 23) (d := 76) (v := _) rfl rfl (by kernel_rfl) (by kernel_rfl) (by kernel_rfl) (fun _ _ _ h => h) (Or.inl ⟨by rfl, ?h23⟩) HSwP.out ?_
        case h23 => intro w hSw; go_simp; with_reducible rfl
        simp only [List.setIfInBounds_toArray, List.set_cons_zero, List.set_cons_succ]
        refine' take_at (i := 24) (d := 77) (v := _) rfl rfl (by kernel_rfl) (by kernel_rfl) (by kernel_rfl) (fun _ _ _ h => h) (Or.inl ⟨by rfl, ?h24⟩) HSwP.out ?_
        case h24 => intro w hSw; go_simp; with_reducible rfl
        simp only [List.setIfInBounds_toArray, List.set_cons_zero, List.set_cons_succ]
        refine' take_at (i := 25) (d := 78) (v := _) rfl rfl (by kernel_rfl) (by kernel_rfl) (by kernel_rfl) (fun _ _ _ h => h) (Or.inl ⟨by rfl, ?h25⟩) HSwP.out ?_
        case h25 => intro w hSw; go_simp; with_reducible rfl
        simp only [List.setIfInBounds_toArray, List.set_cons_zero, List.set_cons_succ]
        refine' take_at (i := 26) (d := 79) (v := _) rfl rfl (by kernel_rfl) (by kernel_rfl) (by kernel_rfl) (fun _ _ _ h => h) (Or.inl ⟨by rfl, ?h26⟩) HSwP.out ?_
        case h26 => intro w hSw; have hcc := hSw.2.2.2; go_simp; with_reducible rfl
        simp only [List.setIfInBounds_toArray, List.set_cons_zero, List.set_cons_succ]
        refine wpAnyH_ready (rs := [22]) (by kernel_rfl) (by simp) ?_
        refine AllReadyH.cons (o := _) rfl (fun K hK => ?_) AllReadyH.nil
        go_simp
        refine (HS.out.lives q st _ _ HwP.out.t.ld HwP.out.t.fd).mono ?_
        rintro e wL ⟨FwL, rfl, hl, hm⟩
        have HwL : Hid (SameS7 LD W wL q qr st FwL G (.slice av n cv) ps va vb xs u11 (Dq.names st)) := HwP.out.landed hl hm
        have HSwL : Hid (Bs wL va xs ∧ Bs wL vb xs ∧ wL.cell? ⟨qr, 2, none⟩ = some (.bool OF) ∧ wL.cell? ⟨qr, 3, none⟩ = some (.int .i64 (LV : Int))) := by
          rw [HOF.out, HLV.out]
          exact ⟨HwL.out.ba, HwL.out.bb, HwL.out.t.rd.c2, HwL.out.t.rd.c3⟩
        clear hl hm
        simp only [← HLV.out]
        refine hK.out _ _ HSwL.out (fun _ => ?_)
        clear hK K
        refine' take_at (i := 27) (d := 80) (v := _) rfl rfl (by kernel_rfl) (by kernel_rfl) (by kernel_rfl) (fun _ _ _ h => h) (Or.inl ⟨by rfl, ?h27⟩) HSwL.out ?_
        case h27 => intro w hSw; go_simp; with_reducible rfl
        simp only [List.setIfInBounds_toArray, List.set_cons_zero, List.set_cons_succ]
        refine' take_at (i := 28) (d := 81) (v := _) rfl rfl (by kernel_rfl) (by kernel_rfl) (by kernel_rfl) (fun _ _ _ h => h) (Or.inl ⟨by rfl, ?h28⟩) HSwL.out ?_
        case h28 => intro w hSw; go_simp; with_reducible rfl
        simp only [List.setIfInBounds_toArray, List.set_cons_zero, List.set_cons_succ]
        refine' take_at (i := 29) (d := 82) (v := _) rfl rfl (by kernel_rfl) (by kernel_rfl) (by kernel_rfl) (fun _ _ _ h => h) (Or.inl ⟨by rfl, ?h29⟩) HSwL.out ?_
        case h29 => intro w hSw; go_simp; with_reducible rfl
        simp only [List.setIfInBounds_toArray, List.set_cons_zero, List.set_cons_succ]
        refine' take_at (i := 30) (d := 83) (v := _) rfl rfl (by kernel_rfl) (by kernel_rfl) (by kernel_rfl) (fun _ _ _ h => h) (Or.inl ⟨by rfl, ?h30⟩) HSwL.out ?_
        case h30 => intro w hSw; go_simp; with_reducible rfl
        simp only [List.setIfInBounds_toArray, List.set_cons_zero, List.set_cons_succ]
        refine' take_at (i := 32) (d := 85) (v := _) rfl rfl (by kernel_rfl) (by kernel_rfl) (by kernel_rfl) (fun _ _ _ h => h) (Or.inl ⟨by rfl, ?h32⟩) HSwL.out ?_
        case h32 => intro w hSw; go_simp; with_reducible rfl
        simp only [List.setIfInBounds_toArray, List.set_cons_zero, List.set_cons_succ]
        refine wpAnyH_ready (rs := [31]) (by kernel_rfl) (by simp) ?_
        refine AllReadyH.cons (o := _) rfl (fun K hK => ?_) AllReadyH.nil
        go_simp
        refine (HS.out.size q st _ _ HwL.out.t.ld HwL.out.t.fd).mono ?_
        rintro e wS ⟨FwS, rfl, hl, hm⟩
        have HwS : Hid (SameS7 LD W wS q qr st FwS G (.slice av n cv) ps va vb xs u11 (Dq.names st)) := HwL.out.landed hl hm
        have HSwS : Hid (Bs wS va xs ∧ Bs wS vb xs ∧ wS.cell? ⟨qr, 2, none⟩ = some (.bool OF) ∧ wS.cell? ⟨qr, 3, none⟩ = some (.int .i64 (LV : Int))) := by
          rw [HOF.out, HLV.out]
          exact ⟨HwS.out.ba, HwS.out.bb, HwS.out.t.rd.c2, HwS.out.t.rd.c3⟩
        clear hl hm
        simp only [← HSZ.out]
        refine hK.out _ _ HSwS.out (fun _ => ?_)
        clear hK K
        refine' take_at (i := 33) (d := 86) (v := _) rfl rfl (by kernel_rfl) (by kernel_rfl) (by kernel_rfl) (fun _ _ _ h => h) (Or.inl ⟨by rfl, ?h33⟩) HSwS.out ?_
        case h33 => intro w hSw; go_simp; with_reducible rfl
        simp only [List.setIfInBounds_toArray, List.set_cons_zero, List.set_cons_succ]
        refine' take_at (i := 34) (d := 87) (v := _) rfl rfl (by kernel_rfl) (by kernel_rfl) (by kernel_rfl) (fun _ _ _ h => h) (Or.inl ⟨by rfl, ?h34⟩) HSwS.out ?_
        case h34 => intro w hSw; go_simp; with_reducible rfl
        simp only [List.setIfInBounds_toArray, List.set_cons_zero, List.set_cons_succ]
        refine' take_at (i := 35) (d := 88) (v := _) rfl rfl (by kernel_rfl) (by kernel_rfl) (by kernel_rfl) (fun _ _ _ h => h) (Or.inl ⟨by rfl, ?h35⟩) HSwS.out ?_
        case h35 => intro w hSw; go_simp; with_reducible rfl
        simp only [List.setIfInBounds_toArray, List.set_cons_zero, List.set_cons_succ]
        refine' take_at (i := 36) (d := 89) (v := _) rfl rfl (by kernel_rfl) (by kernel_rfl) (by kernel_rfl) (fun _ _ _ h => h) (Or.inl ⟨by rfl, ?h36⟩) HSwS.out ?_
        case h36 => intro w hSw; go_simp; with_reducible rfl
        simp only [List.setIfInBounds_toArray, List.set_cons_zero, List.set_cons_succ]
        refine' take_at (i := 38) (d := 91) (v := _) rfl rfl (by kernel_rfl) (by kernel_rfl) (by kernel_rfl) (fun _ _ _ h => h) (Or.inl ⟨by rfl, ?h38⟩) HSwS.out ?_
        case h38 => intro w hSw; go_simp; with_reducible rfl
        simp only [List.setIfInBounds_toArray, List.set_cons_zero, List.set_cons_succ]
        refine wpAnyH_ready (rs := [37]) (by kernel_rfl) (by simp) ?_
        refine AllReadyH.cons (o := _) rfl (fun K hK => ?_) AllReadyH.nil
        go_simp
        refine (HS.out.names q st _ _ HwS.out.t.ld HwS.out.t.fd).mono ?_
        rintro e wN ⟨FwN, vn, rfl, hss, hl, hm⟩
        have HwN : Hid (SameS7 LD W wN q qr st FwN G (.slice av n cv) ps va vb xs u11 (Dq.names st) ∧ Ss wN vn (Dq.names st)) := ⟨HwS.out.landed hl hm, hss⟩
        have HSwN : Hid (Bs wN va xs ∧ Bs wN vb xs ∧ wN.cell? ⟨qr, 2, none⟩ = some (.bool OF) ∧ wN.cell? ⟨qr, 3, none⟩ = some (.int .i64 (LV : Int))) := by
          rw [HOF.out, HLV.out]
          exact ⟨HwN.out.1.ba, HwN.out.1.bb, HwN.out.1.t.rd.c2, HwN.out.1.t.rd.c3⟩
        clear hl hm hss
        refine hK.out _ _ HSwN.out (fun _ => ?_)
        clear hK K
        refine wpAnyH_ready (rs := [39]) (by kernel_rfl) (by simp) ?_
        refine AllReadyH.cons (o := _) rfl (fun K hK => ?_) AllReadyH.nil
        go_simp
        have HLE : Hid ((Dq.names st).length ≤ 1000) := by
          have h : (Dq.names st).length ≤ 1000 := by
            have := HwN.out.1.t.fd.2.1
            unfold Dq.names
            split
            · simp
            · rw [List.length_map]; exact this
          exact h
        refine (refSameT_any vn _ (Dq.names st) (Dq.names st) _ HwN.out.2 HwN.out.1.sl HLE.out HLE.out).mono ?_
        rintro e wQ ⟨rfl, hbq⟩
        rw [decide_eq_true rfl]
        have HFIN : Hid (Two7 LD W wQ q qr st st FwN G (.slice av n cv) ps) := HwN.out.1.t.later HS.out hbq
        have HSwQ : Hid (Bs wQ va xs ∧ Bs wQ vb xs ∧ wQ.cell? ⟨qr, 2, none⟩ = some (.bool OF) ∧ wQ.cell? ⟨qr, 3, none⟩ = some (.int .i64 (LV : Int))) := ⟨HSwN.out.1.below hbq, HSwN.out.2.1.below hbq, Below.kept hbq HSwN.out.2.2.1, Below.kept hbq HSwN.out.2.2.2⟩
        clear hbq
        refine hK.out _ _ HSwQ.out (fun _ => ?_)
        clear hK K
        refine' take_at (i := 40) (d := 93) (v := _) rfl rfl (by kernel_rfl) (by kernel_rfl) (by kernel_rfl) (fun _ _ _ h => h) (Or.inl ⟨by rfl, ?h40⟩) HSwQ.out ?_
        case h40 => intro w hSw; go_simp; with_reducible rfl
        simp only [List.setIfInBounds_toArray, List.set_cons_zero, List.set_cons_succ]
        refine wpAnyH_ready (rs := [41]) (by kernel_rfl) (by simp) ?_
        refine AllReadyH.cons (o := _) rfl (fun K hK => ?_) AllReadyH.nil
        go_simp
        refine hK.out _ _ HSwQ.out (fun _ => ?_)
        clear hK K
        refine wpAnyH_done (by kernel_rfl) ?_ _
        go_wp2
        go_ret
        exact ⟨rfl, _, HFIN.out⟩
end Go.Proofs.Ytphmmdjefpfehaa
