import Derived.Test.YtboejbjobjhajaaGreatDoorSpecs11
import Derived.Test.YtboejbjobjhajaaGreatDoorRefS11
import Derived.Test.YtboejbjobjhajaaGreatDoorBas
import Derived.BigQuiet
import Derived.Test.YtboejbjobjhajaaGreatDoorHbx
namespace Go.Proofs.YtboejbjobjhajaaGreatDoor
open Go.RowKit
def e11 (e : Tq.En) (nv : Value) : List Value := .string e.1 :: k10 e.2 nv
def Rt11 (w : World) (q : Nat) (room : Int) (l : List Tq.En) : Prop := ∃ a n c, Cb w q [.int .i64 room, .slice a n c] 116 ∧ n = l.length ∧ ∀ (j : Nat) e, l[j]? = some e → ∃ g o na nL nc, a = some ⟨g, o, none⟩ ∧ Ss w (.slice na nL nc) e.2.names ∧ e.2.names.length ≤ 1000 ∧ ∀ (i : Nat) u, (e11 e (.slice na nL nc))[i]? = some u → w.cell? ⟨g, o + j * 11 + i, none⟩ = some u
set_option maxRecDepth 20000 in
set_option maxHeartbeats 8000000 in
theorem sameTree_any11 (q1 q2 : Nat) (r1 r2 : Int) (l : List Tq.En) (W : World) (h1 : Rt11 W q1 r1 l) (h2 : Rt11 W q2 r2 l) (hl : l.length ≤ 100000) :
    Calls Tryz.prog 37 #[dptr q1, dptr q2] W fun e w' => e = .returned (.bool true) ∧ Below W.heap.size W w' := by
  obtain ⟨a1, N, c1, hb1, hN, hc1⟩ := h1
  obtain ⟨a2, n2, c2, hb2, hN2, hc2⟩ := h2
  obtain rfl : n2 = N := by omega
  have HX : Hid (∀ w', Below W.heap.size W w' → w'.cell? ⟨q1, 1, none⟩ = some (.slice a1 n2 c1) ∧ w'.cell? ⟨q2, 1, none⟩ = some (.slice a2 n2 c2)) := fun w' hb => ⟨Below.kept hb ((hb1.cell 1).trans rfl), Below.kept hb ((hb2.cell 1).trans rfl)⟩
  have HC : Hid ((∀ (j : Nat) e, l[j]? = some e → ∃ g o na nL nc, a1 = some ⟨g, o, none⟩ ∧ Ss W (.slice na nL nc) e.2.names ∧ e.2.names.length ≤ 1000 ∧ ∀ (i : Nat) u, (e11 e (.slice na nL nc))[i]? = some u → W.cell? ⟨g, o + j * 11 + i, none⟩ = some u) ∧ (∀ (j : Nat) e, l[j]? = some e → ∃ g o na nL nc, a2 = some ⟨g, o, none⟩ ∧ Ss W (.slice na nL nc) e.2.names ∧ e.2.names.length ≤ 1000 ∧ ∀ (i : Nat) u, (e11 e (.slice na nL nc))[i]? = some u → W.cell? ⟨g, o + j * 11 + i, none⟩ = some u) ∧ n2 = l.length) := ⟨hc1, hc2, hN⟩
  have hN1 : n2 ≤ 100000 := by omega
  clear hb1 hb2 hc1 hc2 hN hN2 hl
  obtain ⟨x1, x2⟩ := HX.out W (Below.refl _ _)
  unfold dptr
  go_enter Tryz.func37, Tryz.ntmps37
  go_wp2
  go_quiet (fail)
  clear x1 x2
  have HB : Hid (∀ k, Below W.heap.size W (W.drewN k)) := fun k => below_drewN (Below.refl _ _) k
  go_wp2
  go_loopw [5] (fun i wr => ∃ k : Nat, k ≤ n2 ∧ i = .int .i64 (k : Int) ∧ Below W.heap.size W wr) (fun i _ => n2 - (intOf i).toNat)
  case atStart => exact ⟨0, Nat.zero_le _, rfl, HB.out _⟩
  case round =>
    obtain ⟨k, hk, rfl, hb⟩ := hrel
    have B0 : Hid (Below W.heap.size W wr) := hb
    clear hb HB
    obtain ⟨x1, x2⟩ := HX.out wr B0.out
    by_cases hlt : k < n2
    · have hlt' : (k : Int) < (n2 : Int) := by omega
      have hk0 : (0 : Int) ≤ (k : Int) := by omega
      have hwk : IntKind.wrap .i64 ((k : Int) + 1) = (k : Int) + 1 := by rw [IntKind.wrap_i64]; omega
      obtain ⟨e, he⟩ : ∃ e, l[k]? = some e := ⟨_, List.getElem?_eq_getElem (by have := HC.out.2.2; omega)⟩
      obtain ⟨g, o, na, nL, nc, ha1, hs1, hm1, hcell1⟩ := HC.out.1 k e he
      obtain ⟨g2, o2, ma, mL, mc, ha2, hs2, hm2, hcell2⟩ := HC.out.2.1 k e he
      subst ha1 ha2
      have HE : Hid (∀ w', Below W.heap.size W w' → (w'.cell? ⟨g, o + k * 11, none⟩ = some (.string e.1) ∧ w'.cell? ⟨g, o + k * 11 + 1, none⟩ = some (.int .i64 e.2.made) ∧ w'.cell? ⟨g, o + k * 11 + 2, none⟩ = some (.int .i64 e.2.changed) ∧ w'.cell? ⟨g, o + k * 11 + 3, none⟩ = some (.int .i64 e.2.ver) ∧ w'.cell? ⟨g, o + k * 11 + 4, none⟩ = some (.int .i64 e.2.kids) ∧ w'.cell? ⟨g, o + k * 11 + 5, none⟩ = some (.int .i64 e.2.owner) ∧ w'.cell? ⟨g, o + k * 11 + 6, none⟩ = some (.int .i64 e.2.len) ∧ w'.cell? ⟨g, o + k * 11 + 7, none⟩ = some (.int .i64 e.2.cnt) ∧ w'.cell? ⟨g, o + k * 11 + 8, none⟩ = some (.string e.2.data) ∧ w'.cell? ⟨g, o + k * 11 + 9, none⟩ = some (.int .i64 e.2.next) ∧ w'.cell? ⟨g, o + k * 11 + 10, none⟩ = some (.slice na nL nc)) ∧ (w'.cell? ⟨g2, o2 + k * 11, none⟩ = some (.string e.1) ∧ w'.cell? ⟨g2, o2 + k * 11 + 1, none⟩ = some (.int .i64 e.2.made) ∧ w'.cell? ⟨g2, o2 + k * 11 + 2, none⟩ = some (.int .i64 e.2.changed) ∧ w'.cell? ⟨g2, o2 + k * 11 + 3, none⟩ = some (.int .i64 e.2.ver) ∧ w'.cell? ⟨g2, o2 + k * 11 + 4, none⟩ = some (.int .i64 e.2.kids) ∧ w'.cell? ⟨g2, o2 + k * 11 + 5, none⟩ = some (.int .i64 e.2.owner) ∧ w'.cell? ⟨g2, o2 + k * 11 + 6, none⟩ = some (.int .i64 e.2.len) ∧ w'.cell? ⟨g2, o2 + k * 11 + 7, none⟩ = some (.int .i64 e.2.cnt) ∧ w'.cell? ⟨g2, o2 + k * 11 + 8, none⟩ = some (.string e.2.data) ∧ w'.cell? ⟨g2, o2 + k * 11 + 9, none⟩ = some (.int .i64 e.2.next) ∧ w'.cell? ⟨g2, o2 + k * 11 + 10, none⟩ = some (.slice ma mL mc))) := fun w' hb => ⟨⟨Below.kept hb (hcell1 0 _ rfl), Below.kept hb (hcell1 1 _ rfl), Below.kept hb (hcell1 2 _ rfl), Below.kept hb (hcell1 3 _ rfl), Below.kept hb (hcell1 4 _ rfl), Below.kept hb (hcell1 5 _ rfl), Below.kept hb (hcell1 6 _ rfl), Below.kept hb (hcell1 7 _ rfl), Below.kept hb (hcell1 8 _ rfl), Below.kept hb (hcell1 9 _ rfl), Below.kept hb (hcell1 10 _ rfl)⟩, ⟨Below.kept hb (hcell2 0 _ rfl), Below.kept hb (hcell2 1 _ rfl), Below.kept hb (hcell2 2 _ rfl), Below.kept hb (hcell2 3 _ rfl), Below.kept hb (hcell2 4 _ rfl), Below.kept hb (hcell2 5 _ rfl), Below.kept hb (hcell2 6 _ rfl), Below.kept hb (hcell2 7 _ rfl), Below.kept hb (hcell2 8 _ rfl), Below.kept hb (hcell2 9 _ rfl), Below.kept hb (hcell2 10 _ rfl)⟩⟩
      have HN : Hid (Ss W (.slice na nL nc) e.2.names ∧ Ss W (.slice ma mL mc) e.2.names ∧ e.2.names.length ≤ 1000) := ⟨hs1, hs2, hm1⟩
      clear he hs1 hs2 hm1 hm2 hcell1 hcell2
      go_wp2_with fail
      clear x1 x2
      refine wp_region_held_drew (S := fun w' => Below W.heap.size W w') (by kernel_rfl) B0.out.drew (fun _ => ?_)
      have B1 : Hid (Below W.heap.size W wr.drew) := B0.out.drew
      generalize wr.drew = w1 at *
      clear B0
      refine' tk (i := 0) (d := 26) rfl rfl (Or.inl ⟨by rfl, ?h0⟩) (B1.out) ?_
      case h0 => intro w hSw; go_simp; with_reducible rfl
      simp only [sA, sB, sC]
      refine' tk (i := 1) (d := 27) rfl rfl (Or.inl ⟨by rfl, ?h1⟩) (B1.out) ?_
      case h1 => intro w hSw; go_simp; with_reducible rfl
      simp only [sA, sB, sC]
      refine' tk (i := 2) (d := 28) rfl rfl (Or.inl ⟨by rfl, ?h2⟩) (B1.out) ?_
      case h2 => intro w hSw; go_simp; with_reducible rfl
      simp only [sA, sB, sC]
      refine' tk (i := 3) (d := 29) rfl rfl (Or.inl ⟨by rfl, ?h3⟩) (B1.out) ?_
      case h3 => intro w hSw; obtain ⟨x1, x2⟩ := HX.out w hSw; go_simp; with_reducible rfl
      simp only [sA, sB, sC]
      refine' tk (i := 4) (d := 30) rfl rfl (Or.inl ⟨by rfl, ?h4⟩) (B1.out) ?_
      case h4 => intro w hSw; go_simp; with_reducible rfl
      simp only [sA, sB, sC]
      refine' tk (i := 5) (d := 31) rfl rfl (Or.inl ⟨by rfl, ?h5⟩) (B1.out) ?_
      case h5 => intro w hSw; go_simp; with_reducible rfl
      simp only [sA, sB, sC]
      refine' tk (i := 6) (d := 32) rfl rfl (Or.inl ⟨by rfl, ?h6⟩) (B1.out) ?_
      case h6 => intro w hSw; go_simp; with_reducible rfl
      simp only [sA, sB, sC]
      refine' tk (i := 7) (d := 33) rfl rfl (Or.inl ⟨by rfl, ?h7⟩) (B1.out) ?_
      case h7 => intro w hSw; obtain ⟨⟨y0, y1, y2, y3, y4, y5, y6, y7, y8, y9, y10⟩, ⟨z0, z1, z2, z3, z4, z5, z6, z7, z8, z9, z10⟩⟩ := HE.out w hSw; go_simp; with_reducible rfl
      simp only [sA, sB, sC]
      refine' tk (i := 8) (d := 34) rfl rfl (Or.inl ⟨by rfl, ?h8⟩) (B1.out) ?_
      case h8 => intro w hSw; go_simp; with_reducible rfl
      simp only [sA, sB, sC]
      refine' tk (i := 9) (d := 35) rfl rfl (Or.inl ⟨by rfl, ?h9⟩) (B1.out) ?_
      case h9 => intro w hSw; go_simp; with_reducible rfl
      simp only [sA, sB, sC]
      refine' tk (i := 10) (d := 36) rfl rfl (Or.inl ⟨by rfl, ?h10⟩) (B1.out) ?_
      case h10 => intro w hSw; go_simp; with_reducible rfl
      simp only [sA, sB, sC]
      refine' tk (i := 11) (d := 37) rfl rfl (Or.inl ⟨by rfl, ?h11⟩) (B1.out) ?_
      case h11 => intro w hSw; obtain ⟨x1, x2⟩ := HX.out w hSw; go_simp; with_reducible rfl
      simp only [sA, sB, sC]
      refine' tk (i := 12) (d := 38) rfl rfl (Or.inl ⟨by rfl, ?h12⟩) (B1.out) ?_
      case h12 => intro w hSw; go_simp; with_reducible rfl
      simp only [sA, sB, sC]
      refine' tk (i := 13) (d := 39) rfl rfl (Or.inl ⟨by rfl, ?h13⟩) (B1.out) ?_
      case h13 => intro w hSw; go_simp; with_reducible rfl
      simp only [sA, sB, sC]
      refine' tk (i := 14) (d := 40) rfl rfl (Or.inl ⟨by rfl, ?h14⟩) (B1.out) ?_
      case h14 => intro w hSw; go_simp; with_reducible rfl
      simp only [sA, sB, sC]
      refine' tk (i := 15) (d := 41) rfl rfl (Or.inl ⟨by rfl, ?h15⟩) (B1.out) ?_
      case h15 => intro w hSw; obtain ⟨⟨y0, y1, y2, y3, y4, y5, y6, y7, y8, y9, y10⟩, ⟨z0, z1, z2, z3, z4, z5, z6, z7, z8, z9, z10⟩⟩ := HE.out w hSw; go_simp; with_reducible rfl
      simp only [sA, sB, sC]
      refine' tk (i := 16) (d := 42) rfl rfl (Or.inl ⟨by rfl, ?h16⟩) (B1.out) ?_
      case h16 => intro w hSw; go_simp; with_reducible rfl
      simp only [sA, sB, sC]
      refine' tk (i := 17) (d := 43) rfl rfl (Or.inl ⟨by rfl, ?h17⟩) (B1.out) ?_
      case h17 => intro w hSw; go_simp; with_reducible rfl
      simp only [sA, sB, sC]
      refine' tk (i := 18) (d := 44) rfl rfl (Or.inl ⟨by rfl, ?h18⟩) (B1.out) ?_
      case h18 => intro w hSw; go_simp; with_reducible rfl
      simp only [sA, sB, sC]
      refine' tk (i := 19) (d := 45) rfl rfl (Or.inl ⟨by rfl, ?h19⟩) (B1.out) ?_
      case h19 => intro w hSw; go_simp; with_reducible rfl
      simp only [sA, sB, sC]
      refine' tk (i := 20) (d := 46) rfl rfl (Or.inl ⟨by rfl, ?h20⟩) (B1.out) ?_
      case h20 => intro w hSw; go_simp; with_reducible rfl
      simp only [sA, sB, sC]
      refine' tk (i := 21) (d := 47) rfl rfl (Or.inl ⟨by rfl, ?h21⟩) (B1.out) ?_
      case h21 => intro w hSw; obtain ⟨x1, x2⟩ := HX.out w hSw; go_simp; with_reducible rfl
      simp only [sA, sB, sC]
      refine' tk (i := 22) (d := 48) rfl rfl (Or.inl ⟨by rfl, ?h22⟩) (B1.out) ?_
      case h22 => intro w hSw; go_simp; with_reducible rfl
      simp only [sA, sB, sC]
      refine' tk (i := 23) (d := 49) rfl rfl (Or.inl ⟨by rfl, ?h23⟩) (B1.out) ?_
      case h23 => intro w hSw; go_simp; with_reducible rfl
      simp only [sA, sB, sC]
      refine' tk (i := 24) (d := 50) rfl rfl (Or.inl ⟨by rfl, ?h24⟩) (B1.out) ?_
      case h24 => intro w hSw; go_simp; with_reducible rfl
      simp only [sA, sB, sC]
      refine' tk (i := 25) (d := 51) rfl rfl (Or.inl ⟨by rfl, ?h25⟩) (B1.out) ?_
      case h25 => intro w hSw; obtain ⟨⟨y0, y1, y2, y3, y4, y5, y6, y7, y8, y9, y10⟩, ⟨z0, z1, z2, z3, z4, z5, z6, z7, z8, z9, z10⟩⟩ := HE.out w hSw; go_simp; with_reducible rfl
      simp only [sA, sB, sC]
      refine' tk (i := 26) (d := 52) rfl rfl (Or.inl ⟨by rfl, ?h26⟩) (B1.out) ?_
      case h26 => intro w hSw; go_simp; with_reducible rfl
      simp only [sA, sB, sC]
      refine' tk (i := 27) (d := 53) rfl rfl (Or.inl ⟨by rfl, ?h27⟩) (B1.out) ?_
      case h27 => intro w hSw; go_simp; with_reducible rfl
      simp only [sA, sB, sC]
      refine' tk (i := 28) (d := 54) rfl rfl (Or.inl ⟨by rfl, ?h28⟩) (B1.out) ?_
      case h28 => intro w hSw; go_simp; with_reducible rfl
      simp only [sA, sB, sC]
      refine' tk (i := 29) (d := 55) rfl rfl (Or.inl ⟨by rfl, ?h29⟩) (B1.out) ?_
      case h29 => intro w hSw; obtain ⟨x1, x2⟩ := HX.out w hSw; go_simp; with_reducible rfl
      simp only [sA, sB, sC]
      refine' tk (i := 30) (d := 56) rfl rfl (Or.inl ⟨by rfl, ?h30⟩) (B1.out) ?_
      case h30 => intro w hSw; go_simp; with_reducible rfl
      simp only [sA, sB, sC]
      refine' tk (i := 31) (d := 57) rfl rfl (Or.inl ⟨by rfl, ?h31⟩) (B1.out) ?_
      case h31 => intro w hSw; go_simp; with_reducible rfl
      simp only [sA, sB, sC]
      refine' tk (i := 32) (d := 58) rfl rfl (Or.inl ⟨by rfl, ?h32⟩) (B1.out) ?_
      case h32 => intro w hSw; go_simp; with_reducible rfl
      simp only [sA, sB, sC]
      refine' tk (i := 33) (d := 59) rfl rfl (Or.inl ⟨by rfl, ?h33⟩) (B1.out) ?_
      case h33 => intro w hSw; obtain ⟨⟨y0, y1, y2, y3, y4, y5, y6, y7, y8, y9, y10⟩, ⟨z0, z1, z2, z3, z4, z5, z6, z7, z8, z9, z10⟩⟩ := HE.out w hSw; go_simp; with_reducible rfl
      simp only [sA, sB, sC]
      refine wpAnyH_ready (rs := [34]) (by kernel_rfl) (by simp) ?_
      refine AllReadyH.cons (o := _) rfl (fun KQ hKQ => ?_) AllReadyH.nil
      go_simp
      refine (refSame_any10 e.2 e.2 na ma nL nc mL mc w1 (HN.out.1.below B1.out) (HN.out.2.1.below B1.out) HN.out.2.2 HN.out.2.2).mono ?_
      rintro e5 w5 ⟨R, rfl, hR, hb⟩
      obtain rfl : R = true := hR.2 rfl
      have B5 : Hid (Below W.heap.size W w5) := B1.out.trans (hb.mono B1.out.size)
      clear hb hR
      simp only []
      refine hKQ.out _ _ B5.out (fun _ => ?_)
      clear hKQ KQ
      refine' tk (i := 35) (d := 61) rfl rfl (Or.inl ⟨by rfl, ?h35⟩) (B5.out) ?_
      case h35 => intro w hSw; go_simp; with_reducible rfl
      simp only [sA, sB, sC]
      refine' tk (i := 36) (d := 62) rfl rfl (Or.inl ⟨by rfl, ?h36⟩) (B5.out) ?_
      case h36 => intro w hSw; go_simp; with_reducible rfl
      simp only [sA, sB, sC]
      refine wpAnyH_done (by kernel_rfl) ?_ _
      go_wp2
      go_roundw
      case rel => exact ⟨k + 1, by omega, by go_num, B5.out⟩
      case measure => simp [intOf]; omega
    · have hlt' : ¬ (k : Int) < (n2 : Int) := by omega
      go_wp2
      go_ret
      exact ⟨rfl, B0.out⟩
end Go.Proofs.YtboejbjobjhajaaGreatDoor
namespace Go.Proofs.YtboejbjobjhajaaGreatDoor
open Go.RowKit
def es11 (es : List (Tq.En × Value)) : List Value := es.flatMap fun x => e11 x.1 x.2
theorem e11_len (e : Tq.En) (v : Value) : (e11 e v).length = 11 := rfl
theorem es11_at : ∀ (es : List (Tq.En × Value)) (j : Nat) {x : Tq.En × Value} {i : Nat} {u : Value}, es[j]? = some x → (e11 x.1 x.2)[i]? = some u → (es11 es)[j * 11 + i]? = some u
  | [], j, x, i, u, h, _ => by simp at h
  | y :: es, 0, x, i, u, h, hu => by
    simp only [List.getElem?_cons_zero, Option.some.injEq] at h
    subst h
    have hi := (List.getElem?_eq_some_iff.1 hu).1
    unfold es11
    rw [List.flatMap_cons, List.getElem?_append_left (by simpa using hi), Nat.zero_mul, Nat.zero_add]
    exact hu
  | y :: es, j + 1, x, i, u, h, hu => by
    simp only [List.getElem?_cons_succ] at h
    have ih := es11_at es j h hu
    unfold es11 at ih ⊢
    rw [List.flatMap_cons, List.getElem?_append_right (by rw [e11_len]; omega), e11_len, show (j + 1) * 11 + i - 11 = j * 11 + i by omega]
    exact ih
theorem es11_snoc (es : List (Tq.En × Value)) (x : Tq.En × Value) : es11 (es ++ [x]) = es11 es ++ e11 x.1 x.2 := by unfold es11; simp
structure Ro11 (W w : World) (F : Nat → Prop) (q : Nat) (room : Int) (v : Value) (es : List (Tq.En × Value)) : Prop where
  blk : Kept11 w F q [.int .i64 room, v] 116
  hi : W.heap.size ≤ q
  row : w.ownsRow W.heap.size 142 11 v es.length (es11 es)
  off : ∀ k, v.ownBlock = some k → ¬ F k
  names : ∀ x ∈ es, (∃ a L c, x.2 = .slice a L c) ∧ Sm w F x.2 x.1.2.names
section
variable {W w w' : World} {F F' : Nat → Prop} {q : Nat} {room : Int} {v : Value} {es : List (Tq.En × Value)}
theorem Ro11.moved (h : Ro11 W w F q room v es) (hm : Moved w w' F F') : Ro11 W w' F' q room v es :=
  ⟨h.blk.moved hm, h.hi, row_stays h.row (fun k e => hm.block k (h.row.lt k e).2 (h.off k e)), fun k hk e => by
    rcases hm.sub k e with e | e
    · exact h.off k hk e
    · have := (h.row.lt k hk).2
      omega, fun x hx => ⟨(h.names x hx).1, (h.names x hx).2.moved hm⟩⟩
theorem Ro11.later (h : Ro11 W w F q room v es) (hb : Below w.heap.size w w') : Ro11 W w' F q room v es := h.moved (Moved.of_below F hb)
theorem Ro11.rt (h : Ro11 W w F q room v es) (hl : ∀ x ∈ es, x.1.2.names.length ≤ 1000) : Rt11 w q room (es.map (·.1)) := by
  obtain ⟨a, c, rfl, _, hg⟩ := row_form h.row
  refine ⟨a, es.length, c, h.blk.cb, by rw [List.length_map], fun j e he => ?_⟩
  rw [List.getElem?_map] at he
  cases hx : es[j]? with
  | none => rw [hx] at he; cases he
  | some x =>
    rw [hx] at he
    simp only [Option.map_some, Option.some.injEq] at he
    subst he
    have hj := (List.getElem?_eq_some_iff.1 hx).1
    have hm := List.mem_of_getElem? hx
    obtain ⟨g, rfl⟩ := hg (by omega)
    obtain ⟨⟨na, nL, nc, e2⟩, hs⟩ := h.names x hm
    refine ⟨g, 0, na, nL, nc, rfl, by rw [← e2]; exact hs.ss, hl x hm, fun i u hu => ?_⟩
    rw [← e2] at hu
    have hi := (List.getElem?_eq_some_iff.1 hu).1
    rw [e11_len] at hi
    rw [Nat.zero_add, h.row.cellAt (j * 11 + i) (by omega)]
    exact es11_at es j hx hu
theorem Ro11.same {F2 : Nat → Prop} {q2 : Nat} {r2 : Int} {v2 : Value} {es2 : List (Tq.En × Value)} (h : Ro11 W w F q room v es) (h2 : Ro11 W w F2 q2 r2 v2 es2) (he : es2.map (·.1) = es.map (·.1)) (hl : ∀ e ∈ es.map (·.1), e.2.names.length ≤ 1000) (hn : es.length ≤ 100000) :
    Calls Tryz.prog 37 #[dptr q, dptr q2] w fun e w' => e = .returned (.bool true) ∧ Below w.heap.size w w' := by
  refine sameTree_any11 q q2 room r2 (es.map (·.1)) w (h.rt fun x hx => hl _ (List.mem_map_of_mem hx)) ?_ (by rw [List.length_map]; exact hn)
  have h3 := h2.rt fun x hx => hl _ (by rw [← he]; exact List.mem_map_of_mem hx)
  rw [he] at h3
  exact h3
end
end Go.Proofs.YtboejbjobjhajaaGreatDoor
namespace Go.Proofs.YtboejbjobjhajaaGreatDoor
open Go.RowKit
structure SpecR11 (LT : Rep11) : Prop where
  node : ∀ (q : Nat) (t : Tq.Tr) (F : Nat → Prop) (p : ByteArray) (w : World), LT w q t F → Fine11 t → p.size ≤ maxLen →
    Calls Tryz.prog 82 #[dptr q, .string p] w fun e w' => NodeP t p (fun k => k < w.heap.size) e w' ∧ Below w.heap.size w w'
  paths : ∀ (q : Nat) (t : Tq.Tr) (F : Nat → Prop) (w : World), LT w q t F → Fine11 t →
    Calls Tryz.prog 81 #[dptr q] w fun e w' => ∃ v, e = .returned v ∧ Sq w' v (Tq.keys t.l) ∧ Off11 (fun k => k < w.heap.size) v ∧ Below w.heap.size w w'
end Go.Proofs.YtboejbjobjhajaaGreatDoor
namespace Go.Proofs.YtboejbjobjhajaaGreatDoor
open Go.RowKit
theorem infoEntry11 : (Tryz.prog.info? 142).map (fun i => (i.zero, i.size, i.bytes)) = some (some (.agg #[.string ⟨#[]⟩, .int .i64 0, .int .i64 0, .int .i64 0, .int .i64 0, .int .i64 0, .int .i64 0, .int .i64 0, .string ⟨#[]⟩, .int .i64 0, .slice none 0 0]), 11, 120) := by kernel_rfl
def Fo11 (v : Value) (q : Nat) : Nat → Prop := fun k => v.ownBlock = some k ∨ k = q
structure Ow11 (w0 w : World) (q : Nat) (room : Int) (v : Value) (es : List (Tq.En × Value)) (pv : Value) (ks : List ByteArray) : Prop where
  below : Below w0.heap.size w0 w
  blk : Cb w q [.int .i64 room, v] 116
  hi : w0.heap.size ≤ q
  row : w.ownsRow w0.heap.size 142 11 v es.length (es11 es)
  names : ∀ x ∈ es, (∃ a L c, x.2 = .slice a L c) ∧ Sm w (Fo11 v q) x.2 x.1.2.names ∧ (x.1.2.names ≠ [] → Off11 (fun k => k < w0.heap.size) x.2)
  paths : Sm w (Fo11 v q) pv ks
section
variable {w0 w w' w6 : World} {q : Nat} {room : Int} {v v' pv : Value} {es : List (Tq.En × Value)} {ks : List ByteArray}
theorem Ow11.later (h : Ow11 w0 w q room v es pv ks) (hb : Below w.heap.size w w') : Ow11 w0 w' q room v es pv ks :=
  ⟨h.below.trans (hb.mono h.below.size), h.blk.below hb, h.hi, row_stays h.row (fun k e => hb.block k (h.row.lt k e).2), fun x hx => ⟨(h.names x hx).1, (h.names x hx).2.1.later hb, (h.names x hx).2.2⟩, h.paths.later hb⟩
theorem Ow11.more (h : Ow11 w0 w q room v es pv ks) {x : Tq.En × Value} (hg : w.grownBy w6 v.ownBlock) (hr : w6.ownsRow w0.heap.size 142 11 v' (es ++ [x]).length (es11 (es ++ [x]))) (hv : v'.ownBlock = v.ownBlock ∨ v'.ownBlock = some w.heap.size)
    (hx : (∃ a L c, x.2 = .slice a L c) ∧ Sm w (Fo11 v q) x.2 x.1.2.names ∧ (x.1.2.names ≠ [] → Off11 (fun k => k < w0.heap.size) x.2)) : Ow11 w0 (w6.setCell ⟨q, 1, none⟩ v') q room v' (es ++ [x]) pv ks := by
  have hqne := h.blk.apart h.row (by decide)
  have hb6 : Cb w6 q [.int .i64 room, v] 116 := h.blk.keep (hg.block q h.blk.lt (fun e => hqne e.symm))
  have hg2 := grownBy_setCell w6 ⟨q, 1, none⟩ v'
  have hhi := h.hi
  have hmv : Moved w (w6.setCell ⟨q, 1, none⟩ v') (Fo11 v q) (Fo11 v' q) := by
    refine ⟨hg2.os.trans hg.os, hg2.tape.trans hg.tape, hg2.output.trans hg.output, Nat.le_trans hg.size hg2.size, fun k hk hn => ?_, fun k hk => ?_⟩
    · have h1 : k ≠ q := fun e => hn (Or.inr e)
      rw [hg2.block k (Nat.lt_of_lt_of_le hk hg.size) (fun e => h1 (by simpa using e)), hg.block k hk (fun e => hn (Or.inl e.symm))]
    · rcases hk with hk | hk
      · rcases hv with hv | hv
        · exact Or.inl (Or.inl (hv ▸ hk))
        · rw [hv] at hk
          simp only [Option.some.injEq] at hk
          exact Or.inr (by omega)
      · exact Or.inl (Or.inr hk)
  refine ⟨?_, hb6.set 1 v', h.hi, row_stays hr (fun k e => hg2.block k (hr.lt k e).2 (fun e2 => hb6.apart hr (by decide) (by rw [e, e2]))), fun y hy => ?_, h.paths.moved hmv⟩
  · have h1 := h.below.grown hg h.below.size (fun k hk => (h.row.lt k hk).1)
    exact h1.grown hg2 h1.size (fun k hk => by simp at hk; omega)
  · rcases List.mem_append.1 hy with hy | hy
    · exact ⟨(h.names y hy).1, (h.names y hy).2.1.moved hmv, (h.names y hy).2.2⟩
    · obtain rfl := List.mem_singleton.1 hy
      exact ⟨hx.1, hx.2.1.moved hmv, hx.2.2⟩
theorem Ow11.ro (h : Ow11 w0 w q room v es pv ks) {W : World} {F : Nat → Prop} (hF : ∀ k, F k → k < w0.heap.size) (hW : W.heap.size ≤ w0.heap.size) : Ro11 W w F q room v es := by
  have hhi := h.hi
  refine ⟨⟨h.blk, fun e => by have := hF q e; omega⟩, by omega, h.row.mono hW, fun k hk e => by have := hF k e; have := (h.row.lt k hk).1; omega, fun x hx => ⟨(h.names x hx).1, (h.names x hx).2.1.ss, fun hne k hk e => (h.names x hx).2.2 hne k hk (hF k e)⟩⟩
end
theorem Tq.key_at3 {t : Tq.Tr} (hf : Fine11 t) {j : Nat} (hj : j < t.l.length) : ∃ p n, t.l[j]? = some (p, n) ∧ (Tq.keys t.l)[j]? = some p ∧ Tq.find t.l p = some n ∧ p.size ≤ maxLen := by
  obtain ⟨e, he⟩ : ∃ e, t.l[j]? = some e := ⟨_, List.getElem?_eq_getElem hj⟩
  have hm := List.mem_of_getElem? he
  refine ⟨e.1, e.2, he, ?_, Tq.find_of hf.rise hm, ?_⟩
  · unfold Tq.keys
    rw [List.getElem?_map, he]
    rfl
  · have h1 := (Pl.good_parts (hf.nodes e hm).1).2.2
    rw [Array.length_toList] at h1
    have h3 : e.1.size = e.1.data.size := rfl
    unfold maxLen
    omega
def Sx11 (wc : World) (v : Value) (w' : World) : Prop := ∀ k, k < wc.heap.size → v.ownBlock ≠ some k → w'.heap[k]? = wc.heap[k]?
theorem Sx11.cell {wc w' : World} {v : Value} (h : Sx11 wc v w') {g o : Nat} {u : Value} (hc : wc.cell? ⟨g, o, none⟩ = some u) (hn : v.ownBlock ≠ some g) : w'.cell? ⟨g, o, none⟩ = some u :=
  (World.cell?_of_block (h g (World.block_lt_of_cell? _ _ hc) hn)).trans hc
end Go.Proofs.YtboejbjobjhajaaGreatDoor
