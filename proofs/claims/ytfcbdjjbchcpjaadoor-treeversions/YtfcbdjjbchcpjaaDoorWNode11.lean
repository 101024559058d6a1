/- What the landed fill, Write, Ephemeral and hold do at a node of a tree. -/
import Derived.Test.YtfcbdjjbchcpjaaDoorTk11
import Derived.Test.YtfcbdjjbchcpjaaDoorWSt10
import Derived.Test.YtfcbdjjbchcpjaaDoorWCat10
import Derived.Test.YtfcbdjjbchcpjaaDoorBas
namespace Go.Proofs.YtfcbdjjbchcpjaaDoor
open Go.RowKit

set_option maxRecDepth 20000 in
set_option maxHeartbeats 4000000 in
theorem fill_any11 (q : Nat) (n : Kq.Kn) (v : Value) (z : Int) (d : ByteArray) (w : World) (h : Cb w q (k10 n v) 57) (hd : d.size ≤ 20000) :
    Calls Tryd.prog 39 #[dptr q, .int .i64 z, .string d] w fun e w' => e = .returned (.tuple #[]) ∧ Cb w' q (k10 (Kq.fill n z d) v) 57 ∧ w.grownBy w' (some q) := by
  have HC : Hid (∀ w, Calls Tryd.prog 38 #[.string d] w fun e w' => e = .returned (.string d) ∧ Below w.heap.size w w') := fun w => sclone_any10 d w (by omega)
  have HN : Hid (Cb w q (k10 n v) 57) := h
  clear h
  unfold dptr
  go_enter Tryd.func39, Tryd.ntmps39
  go_wp2_with fail
  refine (HC.out _).mono ?_
  rintro e w1 ⟨rfl, hb⟩
  have HB : Hid (Below w.heap.size w w1) := hb
  have HN1 : Hid (Cb w1 q (k10 n v) 57) := HN.out.below hb
  clear hb
  have c7 : w1.cell? ⟨q, 7, none⟩ = some (.string n.data) := HN1.out.cell 7
  have c1 : w1.cell? ⟨q, 1, none⟩ = some (.int .i64 n.changed) := HN1.out.cell 1
  have c5 : w1.cell? ⟨q, 5, none⟩ = some (.int .i64 n.len) := HN1.out.cell 5
  have f7 := HN1.out.free 7
  have f1 := HN1.out.free 1
  have f5 := HN1.out.free 5
  go_wp2
  go_end0
  refine ⟨rfl, ((HN1.out.set 7 _).set 1 _).set 5 _, grown_set (grown_set (grown_set (grownBy_below HB.out) _) _) _⟩

set_option maxRecDepth 20000 in
set_option maxHeartbeats 4000000 in
theorem write_any11 (q : Nat) (n : Kq.Kn) (v : Value) (z : Int) (d : ByteArray) (w : World) (h : Cb w q (k10 n v) 57) (hf : Fine10 n) (hd : d.size ≤ 20000) :
    Calls Tryd.prog 30 #[dptr q, .int .i64 z, .string d] w fun e w' => e = .returned (.tuple #[]) ∧ Cb w' q (k10 (Kq.write n z d) v) 57 ∧ w.grownBy w' (some q) := by
  have HF : Hid (Calls Tryd.prog 39 #[.pointer (some ⟨q, 0, none⟩), .int .i64 z, .string d] w fun e w' => e = .returned (.tuple #[]) ∧ Cb w' q (k10 (Kq.fill n z d) v) 57 ∧ w.grownBy w' (some q)) := fill_any11 q n v z d w h hd
  have HM : Hid (∀ w, Calls Tryd.prog 43 #[.int .i64 n.ver] w fun e w' => e = .returned (.int .i64 (Kq.more n.ver)) ∧ w' = w) := fun w => oneMore_any10 n.ver w hf.ver
  clear h
  unfold dptr
  go_enter Tryd.func30, Tryd.ntmps30
  go_wp2_with fail
  refine HF.out.mono ?_
  rintro e w1 ⟨rfl, hc, hg⟩
  have HN1 : Hid (Cb w1 q (k10 (Kq.fill n z d) v) 57) := hc
  have HG : Hid (w.grownBy w1 (some q)) := hg
  clear hc hg
  have c2 : w1.cell? ⟨q, 2, none⟩ = some (.int .i64 n.ver) := HN1.out.cell 2
  have f2 := HN1.out.free 2
  go_wp2_with fail
  refine (HM.out _).mono ?_
  rintro e w2 ⟨rfl, hw⟩
  rw [hw]
  clear hw w2
  go_wp2
  go_end0
  exact ⟨rfl, HN1.out.set 2 _, grown_set HG.out _⟩

set_option maxRecDepth 20000 in
set_option maxHeartbeats 1000000 in
theorem eph_any11 (q : Nat) (n : Kq.Kn) (v : Value) (w : World) (h : Cb w q (k10 n v) 57) :
    Calls Tryd.prog 48 #[dptr q] w fun e w' => e = .returned (.bool (decide (n.owner ≠ 0))) ∧ Below w.heap.size w w' := by
  have c4 : w.cell? ⟨q, 4, none⟩ = some (.int .i64 n.owner) := h.cell 4
  clear h
  unfold dptr
  go_enter Tryd.func48, Tryd.ntmps48
  go_wp2
  go_ret
  exact ⟨by simp [bne, BEq.beq], Below.refl _ _⟩

/-- What hold makes of a node. -/
def Kq.hold (n : Kq.Kn) (l : List ByteArray) : Kq.Kn := { n with names := l, kids := Kq.more n.kids, cnt := (l.length : Int) }

set_option maxRecDepth 20000 in
set_option maxHeartbeats 4000000 in
theorem hold_any11 (q : Nat) (n : Kq.Kn) (v p : Value) (ps : List (List ByteArray)) (w : World) (h : Cb w q (k10 n v) 57) (hf : -9223372036854775808 ≤ n.kids ∧ n.kids ≤ 9223372036854775807) (hp : Pcs w p ps) (hl : ps.length ≤ 1000) (hN : ps.flatten.length ≤ 3000) :
    Calls Tryd.prog 42 #[dptr q, p] w fun e w' => ∃ v', e = .returned (.tuple #[]) ∧ Cb w' q (k10 (Kq.hold n ps.flatten) v') 57 ∧ w'.ownsRow w.heap.size 9 1 v' ps.flatten.length (sc ps.flatten) ∧ w.grownBy w' (some q) := by
  have HC : Hid (Calls Tryd.prog 53 #[p] w fun e w' => ∃ a c, e = .returned (.slice a ps.flatten.length c) ∧ w'.ownsRow w.heap.size 9 1 (.slice a ps.flatten.length c) ps.flatten.length (sc ps.flatten) ∧ Below w.heap.size w w') := concat_any10 p ps w hp hl hN
  have HM : Hid (∀ w, Calls Tryd.prog 43 #[.int .i64 n.kids] w fun e w' => e = .returned (.int .i64 (Kq.more n.kids)) ∧ w' = w) := fun w => oneMore_any10 n.kids w hf
  have HN : Hid (Cb w q (k10 n v) 57) := h
  obtain ⟨l, hl⟩ : ∃ l, l = ps.flatten := ⟨_, rfl⟩
  rw [← hl] at HC
  rw [← hl]
  obtain ⟨g, o, c, rfl, _⟩ := hp
  clear h hl hN
  unfold dptr
  go_enter Tryd.func42, Tryd.ntmps42
  go_wp2_with fail
  refine HC.out.mono ?_
  rintro e w1 ⟨a1, c1, rfl, ho, hb⟩
  have HN1 : Hid (Cb w1 q (k10 n v) 57) := HN.out.below hb
  have HO1 : Hid (w1.ownsRow w.heap.size 9 1 (.slice a1 l.length c1) l.length (sc l) ∧ Below w.heap.size w w1) := ⟨ho, hb⟩
  obtain ⟨N, hN⟩ : ∃ N, N = l.length := ⟨_, rfl⟩
  rw [← hN]
  rw [← hN] at HO1
  have HNL : Hid (N = l.length) := hN
  clear ho hb hN
  have c9 : w1.cell? ⟨q, 9, none⟩ = some v := HN1.out.cell 9
  have f9 := HN1.out.free 9
  go_wp2_with fail
  clear c9 f9
  have HN2 : Hid (Cb (w1.setCell ⟨q, 9, none⟩ (.slice a1 N c1)) q (k10 { n with names := l } (.slice a1 N c1)) 57) := HN1.out.set 9 _
  have HO2 : Hid ((w1.setCell ⟨q, 9, none⟩ (.slice a1 N c1)).ownsRow w.heap.size 9 1 (.slice a1 N c1) N (sc l) ∧ w.grownBy (w1.setCell ⟨q, 9, none⟩ (.slice a1 N c1)) (some q)) := ⟨row_stays HO1.out.1 (fun k hk => RowKit.Below.heap_setCell _ _ _ _ (fun e => HN1.out.apart HO1.out.1 (by decide) (by rw [hk]; exact congrArg some e))), grown_set (grownBy_below HO1.out.2) _⟩
  generalize w1.setCell ⟨q, 9, none⟩ (.slice a1 N c1) = w2 at *
  refine wp_region_U (fun w' => w'.cell? ⟨q, 3, none⟩ = some (.int .i64 n.kids) ∧ w'.cell? ⟨q, 9, none⟩ = some (.slice a1 N c1)) [16, 20] (by kernel_rfl) ?_
  have HS : Hid (w2.drew.cell? ⟨q, 3, none⟩ = some (.int .i64 n.kids) ∧ w2.drew.cell? ⟨q, 9, none⟩ = some (.slice a1 N c1)) := ⟨HN2.out.cell 3, HN2.out.cell 9⟩
  have HN3 : Hid (Cb w2.drew q (k10 { n with names := l } (.slice a1 N c1)) 57) := HN2.out
  have HO3 : Hid (w2.drew.ownsRow w.heap.size 9 1 (.slice a1 N c1) N (sc l) ∧ w.grownBy w2.drew (some q)) := ⟨row_stays HO2.out.1 (fun _ _ => rfl), grownBy_trans HO2.out.2 (grownBy_drew w2 (some q))⟩
  clear HN2 HO2
  generalize w2.drew = w3 at *
  refine' take_U (i := 0) (d := 9) (v := _) rfl rfl (by kernel_rfl) (by kernel_rfl) (by kernel_rfl) (by kernel_rfl) (by kernel_rfl) (by kernel_rfl) (fun _ _ _ h => h) (Or.inl ⟨by rfl, ?h0⟩) (HS.out) ?_
  case h0 =>
    intro w hSw
    obtain ⟨hS3, hS9⟩ := hSw
    go_simp
    with_reducible rfl
  simp only [List.setIfInBounds_toArray, List.set_cons_zero, List.set_cons_succ]
  refine' take_U (i := 2) (d := 11) (v := _) rfl rfl (by kernel_rfl) (by kernel_rfl) (by kernel_rfl) (by kernel_rfl) (by kernel_rfl) (by kernel_rfl) (fun _ _ _ h => h) (Or.inl ⟨by rfl, ?h2⟩) (HS.out) ?_
  case h2 =>
    intro w hSw
    obtain ⟨hS3, hS9⟩ := hSw
    go_simp
    with_reducible rfl
  simp only [List.setIfInBounds_toArray, List.set_cons_zero, List.set_cons_succ]
  refine' take_U (i := 3) (d := 12) (v := _) rfl rfl (by kernel_rfl) (by kernel_rfl) (by kernel_rfl) (by kernel_rfl) (by kernel_rfl) (by kernel_rfl) (fun _ _ _ h => h) (Or.inl ⟨by rfl, ?h3⟩) (HS.out) ?_
  case h3 =>
    intro w hSw
    obtain ⟨hS3, hS9⟩ := hSw
    go_simp
    with_reducible rfl
  simp only [List.setIfInBounds_toArray, List.set_cons_zero, List.set_cons_succ]
  refine' take_U (i := 4) (d := 13) (v := _) rfl rfl (by kernel_rfl) (by kernel_rfl) (by kernel_rfl) (by kernel_rfl) (by kernel_rfl) (by kernel_rfl) (fun _ _ _ h => h) (Or.inl ⟨by rfl, ?h4⟩) (HS.out) ?_
  case h4 =>
    intro w hSw
    obtain ⟨hS3, hS9⟩ := hSw
    go_simp
    with_reducible rfl
  simp only [List.setIfInBounds_toArray, List.set_cons_zero, List.set_cons_succ]
  refine' take_U (i := 5) (d := 14) (v := _) rfl rfl (by kernel_rfl) (by kernel_rfl) (by kernel_rfl) (by kernel_rfl) (by kernel_rfl) (by kernel_rfl) (fun _ _ _ h => h) (Or.inl ⟨by rfl, ?h5⟩) (HS.out) ?_
  case h5 =>
    intro w hSw
    obtain ⟨hS3, hS9⟩ := hSw
    go_simp
    with_reducible rfl
  simp only [List.setIfInBounds_toArray, List.set_cons_zero, List.set_cons_succ]
  refine' take_U (i := 6) (d := 15) (v := _) rfl rfl (by kernel_rfl) (by kernel_rfl) (by kernel_rfl) (by kernel_rfl) (by kernel_rfl) (by kernel_rfl) (fun _ _ _ h => h) (Or.inl ⟨by rfl, ?h6⟩) (HS.out) ?_
  case h6 =>
    intro w hSw
    obtain ⟨hS3, hS9⟩ := hSw
    go_simp
    with_reducible rfl
  simp only [List.setIfInBounds_toArray, List.set_cons_zero, List.set_cons_succ]
  refine' take_P (i := 1) (d := 10) (v := _) rfl rfl (by kernel_rfl) (by kernel_rfl) (by kernel_rfl) (by kernel_rfl) (by kernel_rfl) (fun _ _ _ h => h) (Or.inl ⟨by rfl, ?h1⟩) (fun _ => HS.out) ?_
  case h1 => intro w hSw; go_simp; with_reducible rfl
  simp only [List.setIfInBounds_toArray, List.set_cons_zero, List.set_cons_succ]
  refine' take_P (i := 8) (d := 17) (v := _) rfl rfl (by kernel_rfl) (by kernel_rfl) (by kernel_rfl) (by kernel_rfl) (by kernel_rfl) (fun _ _ _ h => h) (Or.inl ⟨by rfl, ?h8⟩) (fun _ => HS.out) ?_
  case h8 => intro w hSw; go_simp; with_reducible rfl
  simp only [List.setIfInBounds_toArray, List.set_cons_zero, List.set_cons_succ]
  refine' take_P (i := 9) (d := 18) (v := _) rfl rfl (by kernel_rfl) (by kernel_rfl) (by kernel_rfl) (by kernel_rfl) (by kernel_rfl) (fun _ _ _ h => h) (Or.inl ⟨by rfl, ?h9⟩) (fun _ => HS.out) ?_
  case h9 => intro w hSw; go_simp; with_reducible rfl
  simp only [List.setIfInBounds_toArray, List.set_cons_zero, List.set_cons_succ]
  refine' take_P (i := 10) (d := 19) (v := _) rfl rfl (by kernel_rfl) (by kernel_rfl) (by kernel_rfl) (by kernel_rfl) (by kernel_rfl) (fun _ _ _ h => h) (Or.inl ⟨by rfl, ?h10⟩) (fun _ => HS.out) ?_
  case h10 => intro w hSw; go_simp; with_reducible rfl
  simp only [List.setIfInBounds_toArray, List.set_cons_zero, List.set_cons_succ]
  refine' take_U (i := 11) (d := 20) (v := _) rfl rfl (by kernel_rfl) (by kernel_rfl) (by kernel_rfl) (by kernel_rfl) (by kernel_rfl) (by kernel_rfl) (fun _ _ _ h => h) (Or.inl ⟨by rfl, ?h11⟩) (HS.out) ?_
  case h11 =>
    intro w hSw
    obtain ⟨hS3, hS9⟩ := hSw
    go_simp
    with_reducible rfl
  simp only [List.setIfInBounds_toArray, List.set_cons_zero, List.set_cons_succ]
  refine' take_P (i := 12) (d := 21) (v := _) rfl rfl (by kernel_rfl) (by kernel_rfl) (by kernel_rfl) (by kernel_rfl) (by kernel_rfl) (fun _ _ _ h => h) (Or.inl ⟨by rfl, ?h12⟩) (fun _ => HS.out) ?_
  case h12 => intro w hSw; go_simp; with_reducible rfl
  simp only [List.setIfInBounds_toArray, List.set_cons_zero, List.set_cons_succ]
  refine wpAnyU_ready (rs := [7]) (by kernel_rfl) (by simp) ?_
  refine AllReadyU.cons (o := _) rfl (fun K hK => ?_) AllReadyU.nil
  go_simp
  refine (HM.out _).mono ?_
  rintro e w4 ⟨rfl, hw⟩
  rw [hw]
  clear hw w4
  simp only []
  refine hK.out _ _ (fun _ _ => HS.out) ?_
  clear hK K
  refine' take_P (i := 13) (d := 22) (v := _) rfl rfl (by kernel_rfl) (by kernel_rfl) (by kernel_rfl) (by kernel_rfl) (by kernel_rfl) (fun _ _ _ h => h) (Or.inl ⟨by rfl, ?h13⟩) (fun _ => HS.out) ?_
  case h13 => intro w hSw; go_simp; with_reducible rfl
  simp only [List.setIfInBounds_toArray, List.set_cons_zero, List.set_cons_succ]
  refine' take_P (i := 14) (d := 23) (v := _) rfl rfl (by kernel_rfl) (by kernel_rfl) (by kernel_rfl) (by kernel_rfl) (by kernel_rfl) (fun _ _ _ h => h) (Or.inl ⟨by rfl, ?h14⟩) (fun _ => HS.out) ?_
  case h14 => intro w hSw; go_simp; with_reducible rfl
  simp only [List.setIfInBounds_toArray, List.set_cons_zero, List.set_cons_succ]
  refine' take_P (i := 15) (d := 24) (v := _) rfl rfl (by kernel_rfl) (by kernel_rfl) (by kernel_rfl) (by kernel_rfl) (by kernel_rfl) (fun _ _ _ h => h) (Or.inl ⟨by rfl, ?h15⟩) (fun _ => HS.out) ?_
  case h15 => intro w hSw; go_simp; with_reducible rfl
  simp only [List.setIfInBounds_toArray, List.set_cons_zero, List.set_cons_succ]
  refine wpAnyU_ready (rs := [16]) (by kernel_rfl) (by simp) ?_
  refine AllReadyU.cons (o := _) rfl (fun K hK => ?_) AllReadyU.nil
  have c3 := HS.out.1
  have f3 := HN3.out.free 3
  go_simp
  clear c3 f3
  refine hK.out _ _ (fun h => absurd (by decide) h) ?_
  clear hK K
  have HN4 : Hid (Cb (w3.setCell ⟨q, 3, none⟩ (.int .i64 (Kq.more n.kids))) q (k10 { n with names := l, kids := Kq.more n.kids } (.slice a1 N c1)) 57) := HN3.out.set 3 _
  have HO4 : Hid ((w3.setCell ⟨q, 3, none⟩ (.int .i64 (Kq.more n.kids))).ownsRow w.heap.size 9 1 (.slice a1 N c1) N (sc l) ∧ w.grownBy (w3.setCell ⟨q, 3, none⟩ (.int .i64 (Kq.more n.kids))) (some q)) := ⟨row_stays HO3.out.1 (fun k hk => RowKit.Below.heap_setCell _ _ _ _ (fun e => HN3.out.apart HO3.out.1 (by decide) (by rw [hk]; exact congrArg some e))), grown_set HO3.out.2 _⟩
  generalize w3.setCell ⟨q, 3, none⟩ (.int .i64 (Kq.more n.kids)) = w4 at *
  refine' take_P (i := 17) (d := 25) (v := _) rfl rfl (by kernel_rfl) (by kernel_rfl) (by kernel_rfl) (by kernel_rfl) (by kernel_rfl) (fun _ _ _ h => h) (Or.inl ⟨by rfl, ?h17⟩) (fun h => absurd (h 16 (by simp)) (by decide)) ?_
  case h17 => intro w hSw; go_simp; with_reducible rfl
  simp only [List.setIfInBounds_toArray, List.set_cons_zero, List.set_cons_succ]
  refine' take_P (i := 18) (d := 26) (v := _) rfl rfl (by kernel_rfl) (by kernel_rfl) (by kernel_rfl) (by kernel_rfl) (by kernel_rfl) (fun _ _ _ h => h) (Or.inl ⟨by rfl, ?h18⟩) (fun h => absurd (h 16 (by simp)) (by decide)) ?_
  case h18 => intro w hSw; go_simp; with_reducible rfl
  simp only [List.setIfInBounds_toArray, List.set_cons_zero, List.set_cons_succ]
  refine' take_P (i := 19) (d := 27) (v := _) rfl rfl (by kernel_rfl) (by kernel_rfl) (by kernel_rfl) (by kernel_rfl) (by kernel_rfl) (fun _ _ _ h => h) (Or.inl ⟨by rfl, ?h19⟩) (fun h => absurd (h 16 (by simp)) (by decide)) ?_
  case h19 => intro w hSw; go_simp; with_reducible rfl
  simp only [List.setIfInBounds_toArray, List.set_cons_zero, List.set_cons_succ]
  refine wpAnyU_ready (rs := [20]) (by kernel_rfl) (by simp) ?_
  refine AllReadyU.cons (o := _) rfl (fun K hK => ?_) AllReadyU.nil
  have c6 : w4.cell? ⟨q, 6, none⟩ = some (.int .i64 n.cnt) := HN4.out.cell 6
  have f6 := HN4.out.free 6
  go_simp
  clear c6 f6
  refine hK.out _ _ (fun h => absurd (by decide) h) ?_
  clear hK K
  refine wpAnyU_done (by kernel_rfl) ?_ _
  go_wp2
  go_end0
  refine ⟨.slice a1 N c1, rfl, ?_, ?_, grown_set HO4.out.2 _⟩
  · have h := HN4.out.set 6 (.int .i64 (N : Int))
    rw [HNL.out] at h ⊢
    exact h
  · rw [← HNL.out]
    exact row_stays HO4.out.1 (fun k hk => RowKit.Below.heap_setCell _ _ _ _ (fun e => HN4.out.apart HO4.out.1 (by decide) (by rw [hk]; exact congrArg some e)))
end Go.Proofs.YtfcbdjjbchcpjaaDoor
