/- What the reference's network does in Send. -/
import Derived.Test.YtkldecdjokfajaaRefX9
namespace Go.Proofs.Ytkldecdjokfajaa
open Go.RowKit

set_option maxRecDepth 20000 in
set_option maxHeartbeats 8000000 in
theorem refSend_yes (q : Nat) (n : Nq.Nt) (G : Nat → Prop) (v : Value) (ts : List Mt) (C : List Value) (fr tt kd : Int) (a1 a2 : Option Addr) (n1 c1 n2 c2 : Nat) (w : World) (h : Rf9 w q n G v ts C) (ns : List Int) (bs : List (List UInt8)) (hbs : Bl w (.slice a2 n2 c2) bs) (hbl : bs.length ≤ 2000000) (hbr : ∀ z ∈ bs, z.length ≤ 140737488355328) (hns : Bi w (.slice a1 n1 c1) ns) (hn1 : (∃ ad k c, Value.slice a1 n1 c1 = .slice (some ad) k c) ∨ Value.slice a1 n1 c1 = .slice none 0 0) (hnl : ns.length ≤ 2000000) (e1 : Nq.node n fr = true) (e2 : Nq.node n tt = true) (e3 : n.cut fr.toNat tt.toNat = false) (e4 : ¬ n.room ≤ ts.length) :
    Calls Try.prog 15 #[dptr q, .agg #[.int .i64 fr, .int .i64 tt, .int .i64 kd, .slice a1 n1 c1, .slice a2 n2 c2]] w fun e w' => e = .returned (.bool true) ∧ ∃ G' v2 ts' C', Rf9 w' q (Nq.put n ⟨fr, tt, kd, ns, bs⟩) G' v2 ts' C' ∧ Moved w w' (Gq q G) (Gq q G') := by
  have HH : Hid (Rf9 w q n G v ts C) := h
  obtain ⟨av, cv, rfl, hcv⟩ := h.slice
  obtain ⟨m, hm⟩ : ∃ m, m = ts.length := ⟨_, rfl⟩
  have HM : Hid (m = ts.length ∧ m ≤ 65536) := ⟨hm, by rw [hm, h.tlen]; exact Nat.le_trans h.fine.fits h.fine.room⟩
  obtain ⟨r, hr⟩ : ∃ r, r = n.room := ⟨_, rfl⟩
  have HBA : Hid (Below w.heap.size w (w.alloc (.cells #[.int .i64 fr, .int .i64 tt, .int .i64 kd, .slice a1 n1 c1, .slice a2 n2 c2] 47))) := (Below.refl _ w).alloc (Nat.le_refl _) _
  have HHA : Hid (Rf9 (w.alloc (.cells #[.int .i64 fr, .int .i64 tt, .int .i64 kd, .slice a1 n1 c1, .slice a2 n2 c2] 47)) q n G (.slice av ts.length cv) ts C) := h.below HBA.out
  have HN : ∀ k i, Hid (Calls Try.prog 31 #[dptr q, .int .i64 k] ((w.alloc (.cells #[.int .i64 fr, .int .i64 tt, .int .i64 kd, .slice a1 n1 c1, .slice a2 n2 c2] 47)).drewN i) fun e w' => e = .returned (.bool (Nq.node n k)) ∧ w' = (w.alloc (.cells #[.int .i64 fr, .int .i64 tt, .int .i64 kd, .slice a1 n1 c1, .slice a2 n2 c2] 47)).drewN i) := fun k i => refNode_any q n G _ ts C k _ (HHA.out.below (below_drewN (Below.refl _ _) i))
  have l1 : (w.alloc (.cells #[.int .i64 fr, .int .i64 tt, .int .i64 kd, .slice a1 n1 c1, .slice a2 n2 c2] 47)).cell? ⟨q, 1, none⟩ = some (.int .i64 (r : Int)) := by rw [hr]; exact (HHA.out.cell 1).trans h.c1
  have l2 : (w.alloc (.cells #[.int .i64 fr, .int .i64 tt, .int .i64 kd, .slice a1 n1 c1, .slice a2 n2 c2] 47)).cell? ⟨q, 2, none⟩ = some (.slice av m cv) := by rw [hm]; exact (HHA.out.cell 2).trans h.c2
  have HBX3 : Hid (∀ i u, ([.int .i64 fr, .int .i64 tt, .int .i64 kd, .slice a1 n1 c1, .slice a2 n2 c2] : List Value)[i]? = some u → (w.alloc (.cells #[.int .i64 fr, .int .i64 tt, .int .i64 kd, .slice a1 n1 c1, .slice a2 n2 c2] 47)).cell? ⟨w.heap.size, i, none⟩ = some u) := fun i u hu => cell?_alloc_at _ _ _ _ _ _ (by simpa using hu)
  have x0 := HBX3.out 0 _ rfl
  have x1 := HBX3.out 1 _ rfl
  have HNS0 : Hid (Bi w (.slice a1 n1 c1) ns ∧ ((∃ ad k c, Value.slice a1 n1 c1 = .slice (some ad) k c) ∨ Value.slice a1 n1 c1 = .slice none 0 0) ∧ ns.length ≤ 2000000) := ⟨hns, hn1, hnl⟩
  clear hns hn1 hnl
  have HMAY : Hid (Nq.may n ⟨fr, tt, kd, ns, bs⟩ = true) := Nq.may_iff.2 ⟨e1, e2, e3, by rw [← h.tlen]; omega⟩
  have hn2b : n2 = bs.length := by
    obtain ⟨_, _, _, ez, ez2, _⟩ := hbs
    simp only [Value.slice.injEq] at ez
    rw [ez.2.1]
    exact ez2
  have HBS : Hid (Bl w (.slice a2 n2 c2) bs ∧ n2 ≤ 2000000 ∧ n2 = bs.length ∧ ∀ z ∈ bs, z.length ≤ 140737488355328) := ⟨hbs, by omega, hn2b, hbr⟩
  clear hbs hbl hbr hn2b
  have HSA : Hid ((w.alloc (.cells #[.int .i64 fr, .int .i64 tt, .int .i64 kd, .slice a1 n1 c1, .slice a2 n2 c2] 47)).heap.size = w.heap.size + 1) := by
    have e : (w.alloc (.cells #[.int .i64 fr, .int .i64 tt, .int .i64 kd, .slice a1 n1 c1, .slice a2 n2 c2] 47)).heap.size = w.heap.size + 1 := by simp
    exact e
  have ha := Nq.node_iff.1 e1
  have hb := Nq.node_iff.1 e2
  have hnn := h.fine.nodes
  obtain ⟨x, hx⟩ : ∃ x : Nat, fr = (x : Int) := ⟨fr.toNat, by omega⟩
  obtain ⟨y, hy⟩ : ∃ y : Nat, tt = (y : Int) := ⟨tt.toNat, by omega⟩
  subst hx hy
  rw [Int.toNat_natCast, Int.toNat_natCast] at e3
  have hx0 : (0 : Int) ≤ (x : Int) := by omega
  have hy0 : (0 : Int) ≤ (y : Int) := by omega
  have hx64 : (x : Int) < 64 := by omega
  have hy64 : (y : Int) < 64 := by omega
  have lw := (HHA.out.cell (3 + x * 64 + y)).trans (h.ways x y (by omega) (by omega))
  rw [e3] at lw
  clear ha hb hnn e3
  rw [← hm, ← hr] at e4
  have b4 : decide (r ≤ m) = false := decide_eq_false (by omega)
  have b5 : ¬ (r : Int) ≤ (m : Int) := by omega
  clear e4
  clear h hm hr hcv
  go_enter Try.func15, Try.ntmps15
  go_upto_region 1 with fail
  generalize hwA : w.alloc (.cells #[.int .i64 (x : Int), .int .i64 (y : Int), .int .i64 kd, .slice a1 n1 c1, .slice a2 n2 c2] 47) = wA at *
  clear hwA
  go_quiet (first
    | (go_at_call 31; exact Calls.quiet_of_same (HN _ _).out))
  go_upto_region 3 with fail
  clear l1 l2 lw x0 x1 hx0 hy0 hx64 hy64 b4 b5 e1 e2 HN
  have HBO : Hid (Below w.heap.size w (wA.drewN nq) ∧ Below wA.heap.size wA (wA.drewN nq) ∧ (wA.drewN nq).heap.size = w.heap.size + 1) := ⟨below_drewN HBA.out _, below_drewN (Below.refl _ _) _, HSA.out⟩
  generalize wA.drewN nq = wO at *
  have HS3 : Hid (∀ w', Below wO.heap.size wO w' → w'.cell? ⟨w.heap.size, 0, none⟩ = some (.int .i64 (x : Int)) ∧ w'.cell? ⟨w.heap.size, 1, none⟩ = some (.int .i64 (y : Int)) ∧ w'.cell? ⟨w.heap.size, 2, none⟩ = some (.int .i64 kd) ∧ w'.cell? ⟨w.heap.size, 3, none⟩ = some (.slice a1 n1 c1) ∧ w'.cell? ⟨w.heap.size, 4, none⟩ = some (.slice a2 n2 c2)) := fun w' hb => by
    have k := fun i u hu => Below.kept hb (Below.kept HBO.out.2.1 (HBX3.out i u hu))
    exact ⟨k 0 _ rfl, k 1 _ rfl, k 2 _ rfl, k 3 _ rfl, k 4 _ rfl⟩
  have HNS : Hid ((∀ w', Below wO.heap.size wO w' → Bi w' (.slice a1 n1 c1) ns) ∧ ((∃ ad k c, Value.slice a1 n1 c1 = .slice (some ad) k c) ∨ Value.slice a1 n1 c1 = .slice none 0 0) ∧ ns.length ≤ 2000000) := ⟨fun w' hb => HNS0.out.1.below (HBO.out.1.trans (hb.mono HBO.out.1.size)), HNS0.out.2⟩
  go_cut [5] (fun v wx => ∃ p5 a52 n52 c52, v = .pointer (some ⟨p5, 0, none⟩) ∧ Bx wO wx p5 (x : Int) (y : Int) kd (.slice a52 n52 c52) (.slice none 0 0) ns [])
  case first =>
    refine wp_region_U (fun w' => w'.cell? ⟨w.heap.size, 0, none⟩ = some (.int .i64 (x : Int)) ∧ w'.cell? ⟨w.heap.size, 1, none⟩ = some (.int .i64 (y : Int)) ∧ w'.cell? ⟨w.heap.size, 2, none⟩ = some (.int .i64 kd) ∧ w'.cell? ⟨w.heap.size, 3, none⟩ = some (.slice a1 n1 c1) ∧ w'.cell? ⟨w.heap.size, 4, none⟩ = some (.slice a2 n2 c2)) [12] (by kernel_rfl) ?_
    have HB0 : Hid (Below wO.heap.size wO wO.drew) := (Below.refl _ _).drew
    generalize wO.drew = wD at *
    refine' take_U (i := 0) (d := 43) (v := _) rfl rfl (by kernel_rfl) (by kernel_rfl) (by kernel_rfl) (by kernel_rfl) (by kernel_rfl) (by kernel_rfl) (fun _ _ _ h => h) (Or.inl ⟨by rfl, ?h0⟩) (HS3.out _ HB0.out) ?_
    case h0 => intro w hSw; obtain ⟨s0, s1, s2, s3, s4⟩ := hSw; go_simp; with_reducible rfl
    simp only [List.setIfInBounds_toArray, List.set_cons_zero, List.set_cons_succ]
    refine' take_U (i := 1) (d := 44) (v := _) rfl rfl (by kernel_rfl) (by kernel_rfl) (by kernel_rfl) (by kernel_rfl) (by kernel_rfl) (by kernel_rfl) (fun _ _ _ h => h) (Or.inl ⟨by rfl, ?h1⟩) (HS3.out _ HB0.out) ?_
    case h1 => intro w hSw; obtain ⟨s0, s1, s2, s3, s4⟩ := hSw; go_simp; with_reducible rfl
    simp only [List.setIfInBounds_toArray, List.set_cons_zero, List.set_cons_succ]
    refine' take_U (i := 2) (d := 45) (v := _) rfl rfl (by kernel_rfl) (by kernel_rfl) (by kernel_rfl) (by kernel_rfl) (by kernel_rfl) (by kernel_rfl) (fun _ _ _ h => h) (Or.inl ⟨by rfl, ?h2⟩) (HS3.out _ HB0.out) ?_
    case h2 => intro w hSw; obtain ⟨s0, s1, s2, s3, s4⟩ := hSw; go_simp; with_reducible rfl
    simp only [List.setIfInBounds_toArray, List.set_cons_zero, List.set_cons_succ]
    refine' take_U (i := 3) (d := 46) (v := _) rfl rfl (by kernel_rfl) (by kernel_rfl) (by kernel_rfl) (by kernel_rfl) (by kernel_rfl) (by kernel_rfl) (fun _ _ _ h => h) (Or.inl ⟨by rfl, ?h3⟩) (HS3.out _ HB0.out) ?_
    case h3 => intro w hSw; obtain ⟨s0, s1, s2, s3, s4⟩ := hSw; go_simp; with_reducible rfl
    simp only [List.setIfInBounds_toArray, List.set_cons_zero, List.set_cons_succ]
    refine' take_U (i := 4) (d := 47) (v := _) rfl rfl (by kernel_rfl) (by kernel_rfl) (by kernel_rfl) (by kernel_rfl) (by kernel_rfl) (by kernel_rfl) (fun _ _ _ h => h) (Or.inl ⟨by rfl, ?h4⟩) (HS3.out _ HB0.out) ?_
    case h4 => intro w hSw; obtain ⟨s0, s1, s2, s3, s4⟩ := hSw; go_simp; with_reducible rfl
    simp only [List.setIfInBounds_toArray, List.set_cons_zero, List.set_cons_succ]
    refine' take_U (i := 5) (d := 48) (v := _) rfl rfl (by kernel_rfl) (by kernel_rfl) (by kernel_rfl) (by kernel_rfl) (by kernel_rfl) (by kernel_rfl) (fun _ _ _ h => h) (Or.inl ⟨by rfl, ?h5⟩) (HS3.out _ HB0.out) ?_
    case h5 => intro w hSw; obtain ⟨s0, s1, s2, s3, s4⟩ := hSw; go_simp; with_reducible rfl
    simp only [List.setIfInBounds_toArray, List.set_cons_zero, List.set_cons_succ]
    refine' take_U (i := 7) (d := 50) (v := _) rfl rfl (by kernel_rfl) (by kernel_rfl) (by kernel_rfl) (by kernel_rfl) (by kernel_rfl) (by kernel_rfl) (fun _ _ _ h => h) (Or.inl ⟨by rfl, ?h7⟩) (HS3.out _ HB0.out) ?_
    case h7 => intro w hSw; obtain ⟨s0, s1, s2, s3, s4⟩ := hSw; go_simp; with_reducible rfl
    simp only [List.setIfInBounds_toArray, List.set_cons_zero, List.set_cons_succ]
    refine' take_U (i := 8) (d := 51) (v := _) rfl rfl (by kernel_rfl) (by kernel_rfl) (by kernel_rfl) (by kernel_rfl) (by kernel_rfl) (by kernel_rfl) (fun _ _ _ h => h) (Or.inl ⟨by rfl, ?h8⟩) (HS3.out _ HB0.out) ?_
    case h8 => intro w hSw; obtain ⟨s0, s1, s2, s3, s4⟩ := hSw; go_simp; with_reducible rfl
    simp only [List.setIfInBounds_toArray, List.set_cons_zero, List.set_cons_succ]
    refine wpAnyU_ready (rs := [6, 11]) (by kernel_rfl) (by simp) ?_
    refine AllReadyU.cons (o := _) rfl (fun K hK => ?_) (AllReadyU.cons (o := _) rfl (fun K hK => ?_) AllReadyU.nil)
    · go_simp
      obtain ⟨q0, hqq⟩ : ∃ z, z = wD.heap.size := ⟨_, rfl⟩
      rw [← hqq]
      have HB1 : Hid (Below wO.heap.size wO (wD.alloc (.cells #[] 2))) := HB0.out.alloc HB0.out.size _
      have HO1 : Hid ((wD.alloc (.cells #[] 2)).ownsRow wO.heap.size 2 1 (.slice (some ⟨q0, 0, none⟩) 0 0) ([] : List Int).length (([] : List Int).map (Value.int .i64))) := by
        have e := (World.ownsRow_made wD (e := 2) (size := 1) #[] 0 (Nat.le_refl _) (by decide) rfl).mono HB0.out.size
        rw [hqq]
        exact e
      clear hqq
      generalize wD.alloc (.cells #[] 2) = wY1 at *
      refine hK.out _ _ (fun _ _ => HS3.out _ HB1.out) ?_
      clear hK K
      refine wpAnyU_ready (rs := [9, 11]) (by kernel_rfl) (by simp) ?_
      refine AllReadyU.cons (o := _) rfl (fun K hK => ?_) (AllReadyU.cons (o := _) rfl (fun K hK => ?_) AllReadyU.nil)
      · refine wp_ints _ _ rfl wO.heap.size (.slice (some ⟨q0, 0, none⟩) 0 0) (.slice a1 n1 c1) [] ns wY1 rfl rfl HO1.out HB1.out.size (HNS.out.1 _ HB1.out) HNS.out.2.1 (by have h1 := HNS.out.2.2; simp only [List.length_nil]; omega) ?_
        intro v52 wY2 ho hg
        have HB2 : Hid (Below wO.heap.size wO wY2) := HB1.out.grown hg HB1.out.size (fun z hz => (HO1.out.lt z hz).1)
        rw [List.nil_append] at ho
        obtain ⟨a52, c52, hv52, hz1⟩ := row_shape9 ho
        clear hz1
        obtain ⟨n52, hn52⟩ : ∃ z, z = ns.length := ⟨_, rfl⟩
        have HN52 : Hid (n52 = ns.length) := hn52
        rw [← hn52] at hv52 ho
        subst hv52
        have HP2 : Hid (wY2.ownsRow wO.heap.size 2 1 (.slice a52 n52 c52) n52 (ns.map (Value.int .i64))) := ho
        clear ho hg hn52
        go_simp
        refine hK.out _ _ (fun _ _ => HS3.out _ HB2.out) ?_
        clear hK K
        refine' take_P (i := 10) (d := 53) (v := _) rfl rfl (by kernel_rfl) (by kernel_rfl) (by kernel_rfl) (by kernel_rfl) (by kernel_rfl) (fun _ _ _ h => h) (Or.inl ⟨by rfl, ?h10⟩) (fun _ => HS3.out _ HB2.out) ?_
        case h10 => intro w hSw; go_simp; with_reducible rfl
        simp only [List.setIfInBounds_toArray, List.set_cons_zero, List.set_cons_succ]
        refine wpAnyU_ready (rs := [11]) (by kernel_rfl) (by simp) ?_
        refine AllReadyU.cons (o := _) rfl (fun K hK => ?_) AllReadyU.nil
        go_simp
        obtain ⟨p5, hqq⟩ : ∃ z, z = wY2.heap.size := ⟨_, rfl⟩
        rw [← hqq]
        have HB3 : Hid (Below wO.heap.size wO (wY2.alloc (.cells #[.int .i64 0, .int .i64 0, .int .i64 0, .slice none 0 0, .slice none 0 0] 47))) := HB2.out.alloc HB2.out.size _
        have HK3 : Hid ((wY2.alloc (.cells #[.int .i64 0, .int .i64 0, .int .i64 0, .slice none 0 0, .slice none 0 0] 47)).heap[p5]? = some (.cells #[.int .i64 0, .int .i64 0, .int .i64 0, .slice none 0 0, .slice none 0 0] 47)) := by rw [hqq]; exact heap_alloc_new _ _
        have HP3 : Hid ((wY2.alloc (.cells #[.int .i64 0, .int .i64 0, .int .i64 0, .slice none 0 0, .slice none 0 0] 47)).ownsRow wO.heap.size 2 1 (.slice a52 n52 c52) n52 (ns.map (Value.int .i64))) := HP2.out.alloc _
        have HL5 : Hid (wO.heap.size ≤ p5) := by
          have e := HB2.out.size
          have e2 : wO.heap.size ≤ p5 := by omega
          exact e2
        clear hqq
        generalize wY2.alloc (.cells #[.int .i64 0, .int .i64 0, .int .i64 0, .slice none 0 0, .slice none 0 0] 47) = wY3 at *
        refine hK.out _ _ (fun _ _ => HS3.out _ HB3.out) ?_
        clear hK K
        refine wpAnyU_ready (rs := [12]) (by kernel_rfl) (by simp) ?_
        refine AllReadyU.cons (o := _) rfl (fun K hK => ?_) AllReadyU.nil
        have y0 : wY3.cell? ⟨p5, 0, none⟩ = some (.int .i64 0) := by simp [World.cell?, HK3.out]
        have y1 : wY3.cell? ⟨p5, 1, none⟩ = some (.int .i64 0) := by simp [World.cell?, HK3.out]
        have y2 : wY3.cell? ⟨p5, 2, none⟩ = some (.int .i64 0) := by simp [World.cell?, HK3.out]
        have y3 : wY3.cell? ⟨p5, 3, none⟩ = some (.slice none 0 0) := by simp [World.cell?, HK3.out]
        have y4 : wY3.cell? ⟨p5, 4, none⟩ = some (.slice none 0 0) := by simp [World.cell?, HK3.out]
        have fz : ∀ i, wY3.frozen? ⟨p5, i, none⟩ = false := fun i => by simp [World.frozen?, HK3.out]
        have f0 := fz 0
        have f1 := fz 1
        have f2 := fz 2
        have f3 := fz 3
        have f4 := fz 4
        clear fz
        go_simp
        clear y0 y1 y2 y3 y4 f0 f1 f2 f3 f4
        refine hK.out _ _ (fun h => absurd (by decide) h) ?_
        clear hK K
        refine wpAnyU_done (by kernel_rfl) ?_ _
        go_wp2
        go_meet
        case rel => exact ⟨p5, a52, n52, c52, rfl, Bx.start HB3.out HK3.out HL5.out HP3.out HN52.out⟩
      · go_simp
        obtain ⟨p5, hqq⟩ : ∃ z, z = wY1.heap.size := ⟨_, rfl⟩
        rw [← hqq]
        have HB2 : Hid (Below wO.heap.size wO (wY1.alloc (.cells #[.int .i64 0, .int .i64 0, .int .i64 0, .slice none 0 0, .slice none 0 0] 47))) := HB1.out.alloc HB1.out.size _
        have HO2 : Hid ((wY1.alloc (.cells #[.int .i64 0, .int .i64 0, .int .i64 0, .slice none 0 0, .slice none 0 0] 47)).ownsRow wO.heap.size 2 1 (.slice (some ⟨q0, 0, none⟩) 0 0) ([] : List Int).length (([] : List Int).map (Value.int .i64))) := HO1.out.alloc _
        have HK2 : Hid ((wY1.alloc (.cells #[.int .i64 0, .int .i64 0, .int .i64 0, .slice none 0 0, .slice none 0 0] 47)).heap[p5]? = some (.cells #[.int .i64 0, .int .i64 0, .int .i64 0, .slice none 0 0, .slice none 0 0] 47) ∧ p5 ≠ q0) := ⟨by rw [hqq]; exact heap_alloc_new _ _, by have e := (HO1.out.lt q0 rfl).2; rw [hqq]; omega⟩
        have HL5 : Hid (wO.heap.size ≤ p5) := by
          have e := HB1.out.size
          have e2 : wO.heap.size ≤ p5 := by omega
          exact e2
        clear hqq
        generalize wY1.alloc (.cells #[.int .i64 0, .int .i64 0, .int .i64 0, .slice none 0 0, .slice none 0 0] 47) = wY2 at *
        refine hK.out _ _ (fun _ _ => HS3.out _ HB2.out) ?_
        clear hK K
        refine wpAnyU_ready (rs := [9]) (by kernel_rfl) (by simp) ?_
        refine AllReadyU.cons (o := _) rfl (fun K hK => ?_) AllReadyU.nil
        refine wp_ints _ _ rfl wO.heap.size (.slice (some ⟨q0, 0, none⟩) 0 0) (.slice a1 n1 c1) [] ns wY2 rfl rfl HO2.out HB2.out.size (HNS.out.1 _ HB2.out) HNS.out.2.1 (by have h1 := HNS.out.2.2; simp only [List.length_nil]; omega) ?_
        intro v52 wY3 ho hg
        have HB3 : Hid (Below wO.heap.size wO wY3) := HB2.out.grown hg HB2.out.size (fun z hz => (HO2.out.lt z hz).1)
        have HK3 : Hid (wY3.heap[p5]? = some (.cells #[.int .i64 0, .int .i64 0, .int .i64 0, .slice none 0 0, .slice none 0 0] 47)) := by
          have e := (Array.getElem?_eq_some_iff.1 HK2.out.1).1
          exact (hg.block p5 e (fun e2 => HK2.out.2 (by simpa [Value.ownBlock] using e2))).trans HK2.out.1
        rw [List.nil_append] at ho
        obtain ⟨a52, c52, hv52, hz1⟩ := row_shape9 ho
        clear hz1
        obtain ⟨n52, hn52⟩ : ∃ z, z = ns.length := ⟨_, rfl⟩
        have HN52 : Hid (n52 = ns.length) := hn52
        rw [← hn52] at hv52 ho
        subst hv52
        have HP3 : Hid (wY3.ownsRow wO.heap.size 2 1 (.slice a52 n52 c52) n52 (ns.map (Value.int .i64))) := ho
        clear ho hg hn52
        go_simp
        refine hK.out _ _ (fun _ _ => HS3.out _ HB3.out) ?_
        clear hK K
        refine' take_P (i := 10) (d := 53) (v := _) rfl rfl (by kernel_rfl) (by kernel_rfl) (by kernel_rfl) (by kernel_rfl) (by kernel_rfl) (fun _ _ _ h => h) (Or.inl ⟨by rfl, ?h10⟩) (fun _ => HS3.out _ HB3.out) ?_
        case h10 => intro w hSw; go_simp; with_reducible rfl
        simp only [List.setIfInBounds_toArray, List.set_cons_zero, List.set_cons_succ]
        refine wpAnyU_ready (rs := [12]) (by kernel_rfl) (by simp) ?_
        refine AllReadyU.cons (o := _) rfl (fun K hK => ?_) AllReadyU.nil
        have y0 : wY3.cell? ⟨p5, 0, none⟩ = some (.int .i64 0) := by simp [World.cell?, HK3.out]
        have y1 : wY3.cell? ⟨p5, 1, none⟩ = some (.int .i64 0) := by simp [World.cell?, HK3.out]
        have y2 : wY3.cell? ⟨p5, 2, none⟩ = some (.int .i64 0) := by simp [World.cell?, HK3.out]
        have y3 : wY3.cell? ⟨p5, 3, none⟩ = some (.slice none 0 0) := by simp [World.cell?, HK3.out]
        have y4 : wY3.cell? ⟨p5, 4, none⟩ = some (.slice none 0 0) := by simp [World.cell?, HK3.out]
        have fz : ∀ i, wY3.frozen? ⟨p5, i, none⟩ = false := fun i => by simp [World.frozen?, HK3.out]
        have f0 := fz 0
        have f1 := fz 1
        have f2 := fz 2
        have f3 := fz 3
        have f4 := fz 4
        clear fz
        go_simp
        clear y0 y1 y2 y3 y4 f0 f1 f2 f3 f4
        refine hK.out _ _ (fun h => absurd (by decide) h) ?_
        clear hK K
        refine wpAnyU_done (by kernel_rfl) ?_ _
        go_wp2
        go_meet
        case rel => exact ⟨p5, a52, n52, c52, rfl, Bx.start HB3.out HK3.out HL5.out HP3.out HN52.out⟩
    · go_simp
      obtain ⟨p5, hqq⟩ : ∃ z, z = wD.heap.size := ⟨_, rfl⟩
      rw [← hqq]
      have HB1 : Hid (Below wO.heap.size wO (wD.alloc (.cells #[.int .i64 0, .int .i64 0, .int .i64 0, .slice none 0 0, .slice none 0 0] 47))) := HB0.out.alloc HB0.out.size _
      have HK1 : Hid ((wD.alloc (.cells #[.int .i64 0, .int .i64 0, .int .i64 0, .slice none 0 0, .slice none 0 0] 47)).heap[p5]? = some (.cells #[.int .i64 0, .int .i64 0, .int .i64 0, .slice none 0 0, .slice none 0 0] 47)) := by rw [hqq]; exact heap_alloc_new _ _
      have HL5 : Hid (wO.heap.size ≤ p5) := by
        have e := HB0.out.size
        have e2 : wO.heap.size ≤ p5 := by omega
        exact e2
      clear hqq
      generalize wD.alloc (.cells #[.int .i64 0, .int .i64 0, .int .i64 0, .slice none 0 0, .slice none 0 0] 47) = wY1 at *
      refine hK.out _ _ (fun _ _ => HS3.out _ HB1.out) ?_
      clear hK K
      refine wpAnyU_ready (rs := [6]) (by kernel_rfl) (by simp) ?_
      refine AllReadyU.cons (o := _) rfl (fun K hK => ?_) AllReadyU.nil
      go_simp
      obtain ⟨q0, hqq⟩ : ∃ z, z = wY1.heap.size := ⟨_, rfl⟩
      rw [← hqq]
      have HB2 : Hid (Below wO.heap.size wO (wY1.alloc (.cells #[] 2))) := HB1.out.alloc HB1.out.size _
      have HO2 : Hid ((wY1.alloc (.cells #[] 2)).ownsRow wO.heap.size 2 1 (.slice (some ⟨q0, 0, none⟩) 0 0) ([] : List Int).length (([] : List Int).map (Value.int .i64))) := by
        have e := (World.ownsRow_made wY1 (e := 2) (size := 1) #[] 0 (Nat.le_refl _) (by decide) rfl).mono HB1.out.size
        rw [hqq]
        exact e
      have HK2 : Hid ((wY1.alloc (.cells #[] 2)).heap[p5]? = some (.cells #[.int .i64 0, .int .i64 0, .int .i64 0, .slice none 0 0, .slice none 0 0] 47) ∧ p5 ≠ q0) := by
        have e := (Array.getElem?_eq_some_iff.1 HK1.out).1
        exact ⟨(((Below.refl _ wY1).alloc (Nat.le_refl _) _).block p5 e).trans HK1.out, by rw [hqq]; omega⟩
      clear hqq
      generalize wY1.alloc (.cells #[] 2) = wY2 at *
      refine hK.out _ _ (fun _ _ => HS3.out _ HB2.out) ?_
      clear hK K
      refine wpAnyU_ready (rs := [9]) (by kernel_rfl) (by simp) ?_
      refine AllReadyU.cons (o := _) rfl (fun K hK => ?_) AllReadyU.nil
      refine wp_ints _ _ rfl wO.heap.size (.slice (some ⟨q0, 0, none⟩) 0 0) (.slice a1 n1 c1) [] ns wY2 rfl rfl HO2.out HB2.out.size (HNS.out.1 _ HB2.out) HNS.out.2.1 (by have h1 := HNS.out.2.2; simp only [List.length_nil]; omega) ?_
      intro v52 wY3 ho hg
      have HB3 : Hid (Below wO.heap.size wO wY3) := HB2.out.grown hg HB2.out.size (fun z hz => (HO2.out.lt z hz).1)
      have HK3 : Hid (wY3.heap[p5]? = some (.cells #[.int .i64 0, .int .i64 0, .int .i64 0, .slice none 0 0, .slice none 0 0] 47)) := by
        have e := (Array.getElem?_eq_some_iff.1 HK2.out.1).1
        exact (hg.block p5 e (fun e2 => HK2.out.2 (by simpa [Value.ownBlock] using e2))).trans HK2.out.1
      rw [List.nil_append] at ho
      obtain ⟨a52, c52, hv52, hz1⟩ := row_shape9 ho
      clear hz1
      obtain ⟨n52, hn52⟩ : ∃ z, z = ns.length := ⟨_, rfl⟩
      have HN52 : Hid (n52 = ns.length) := hn52
      rw [← hn52] at hv52 ho
      subst hv52
      have HP3 : Hid (wY3.ownsRow wO.heap.size 2 1 (.slice a52 n52 c52) n52 (ns.map (Value.int .i64))) := ho
      clear ho hg hn52
      go_simp
      refine hK.out _ _ (fun _ _ => HS3.out _ HB3.out) ?_
      clear hK K
      refine' take_P (i := 10) (d := 53) (v := _) rfl rfl (by kernel_rfl) (by kernel_rfl) (by kernel_rfl) (by kernel_rfl) (by kernel_rfl) (fun _ _ _ h => h) (Or.inl ⟨by rfl, ?h10⟩) (fun _ => HS3.out _ HB3.out) ?_
      case h10 => intro w hSw; go_simp; with_reducible rfl
      simp only [List.setIfInBounds_toArray, List.set_cons_zero, List.set_cons_succ]
      refine wpAnyU_ready (rs := [12]) (by kernel_rfl) (by simp) ?_
      refine AllReadyU.cons (o := _) rfl (fun K hK => ?_) AllReadyU.nil
      have y0 : wY3.cell? ⟨p5, 0, none⟩ = some (.int .i64 0) := by simp [World.cell?, HK3.out]
      have y1 : wY3.cell? ⟨p5, 1, none⟩ = some (.int .i64 0) := by simp [World.cell?, HK3.out]
      have y2 : wY3.cell? ⟨p5, 2, none⟩ = some (.int .i64 0) := by simp [World.cell?, HK3.out]
      have y3 : wY3.cell? ⟨p5, 3, none⟩ = some (.slice none 0 0) := by simp [World.cell?, HK3.out]
      have y4 : wY3.cell? ⟨p5, 4, none⟩ = some (.slice none 0 0) := by simp [World.cell?, HK3.out]
      have fz : ∀ i, wY3.frozen? ⟨p5, i, none⟩ = false := fun i => by simp [World.frozen?, HK3.out]
      have f0 := fz 0
      have f1 := fz 1
      have f2 := fz 2
      have f3 := fz 3
      have f4 := fz 4
      clear fz
      go_simp
      clear y0 y1 y2 y3 y4 f0 f1 f2 f3 f4
      refine hK.out _ _ (fun h => absurd (by decide) h) ?_
      clear hK K
      refine wpAnyU_done (by kernel_rfl) ?_ _
      go_wp2
      go_meet
      case rel => exact ⟨p5, a52, n52, c52, rfl, Bx.start HB3.out HK3.out HL5.out HP3.out HN52.out⟩
  case rest =>
    obtain ⟨p5, a52, n52, c52, rfl, hbx⟩ := hcut
    have HX5 : Hid (Bx wO wc p5 (x : Int) (y : Int) kd (.slice a52 n52 c52) (.slice none 0 0) ns []) := hbx
    have z4 := (HS3.out _ hbx.below).2.2.2.2
    clear hbx
    go_wp2
    go_loopw [6] (fun i wr => ∃ k : Nat, k ≤ n2 ∧ i = .int .i64 (k : Int) ∧ ∃ vB, Bx wO wr p5 (x : Int) (y : Int) kd (.slice a52 n52 c52) vB ns (bs.take k)) (fun i _ => n2 - (intOf i).toNat)
    case atStart => exact ⟨0, Nat.zero_le _, rfl, _, HX5.out⟩
    case round =>
      obtain ⟨k, hk, rfl, vB, hbx⟩ := hrel
      have HXK : Hid (Bx wO wr p5 (x : Int) (y : Int) kd (.slice a52 n52 c52) vB ns (bs.take k)) := hbx
      obtain ⟨us, hl1, hl2⟩ := hbx.rows
      obtain ⟨aB, cB, hvB, hz1⟩ := row_shape9 hl1
      clear hz1
      obtain ⟨nB, hnB⟩ : ∃ z, z = (bs.take k).length := ⟨_, rfl⟩
      rw [← hnB] at hvB
      subst hvB
      have z4b := (HS3.out _ hbx.below).2.2.2.2
      clear hl1 hl2 hnB hbx
      by_cases hlt : k < n2
      · have hlt' : (k : Int) < (n2 : Int) := by omega
        have hk0 : (0 : Int) ≤ (k : Int) := by omega
        have hwk : IntKind.wrap .i64 ((k : Int) + 1) = (k : Int) + 1 := by
          have h1 := HBS.out.2.1
          rw [IntKind.wrap_i64]
          omega
        obtain ⟨xs, hxs⟩ : ∃ xs, bs[k]? = some xs := ⟨bs[k]'(by rw [← HBS.out.2.2.1]; exact hlt), List.getElem?_eq_getElem _⟩
        have HXS : Hid (bs[k]? = some xs) := hxs
        obtain ⟨av9, k9, c9, e9, hz9, hc9⟩ := HBS.out.1
        clear hz9
        simp only [Value.slice.injEq] at e9
        obtain ⟨gb, ob, u, hab, hcu, hbu⟩ := hc9 k xs hxs
        obtain ⟨e9, hz1, hz2⟩ := e9
        clear hz1 hz2
        rw [← e9] at hab
        subst hab
        clear hc9 e9 hxs
        obtain ⟨au, nu, cu, hu3, hz1, hz2⟩ := id hbu
        clear hz1 hz2
        subst hu3
        have HUB : Hid (∀ w', Below wO.heap.size wO w' → w'.cell? ⟨gb, ob + k, none⟩ = some (.slice au nu cu) ∧ Bs w' (.slice au nu cu) xs) := fun w' hb => ⟨Below.kept (HBO.out.1.trans (hb.mono HBO.out.1.size)) hcu, hbu.below (HBO.out.1.trans (hb.mono HBO.out.1.size))⟩
        clear hcu hbu
        go_wp2_with fail
        clear z4b
        refine wp_region_U (fun w' => w'.cell? ⟨p5, 4, none⟩ = some (.slice aB nB cB) ∧ w'.cell? ⟨w.heap.size, 4, none⟩ = some (.slice (some ⟨gb, ob, none⟩) n2 c2) ∧ w'.cell? ⟨gb, ob + k, none⟩ = some (.slice au nu cu)) [12] (by kernel_rfl) ?_
        have HXD : Hid (Bx wO wr.drew p5 (x : Int) (y : Int) kd (.slice a52 n52 c52) (.slice aB nB cB) ns (bs.take k)) := HXK.out.later (Below.refl _ _).drew
        generalize wr.drew = wD at *
        have HS7 : Hid (∀ w', Below wD.heap.size wD w' → w'.cell? ⟨p5, 4, none⟩ = some (.slice aB nB cB) ∧ w'.cell? ⟨w.heap.size, 4, none⟩ = some (.slice (some ⟨gb, ob, none⟩) n2 c2) ∧ w'.cell? ⟨gb, ob + k, none⟩ = some (.slice au nu cu)) := fun w' hb => ⟨(HXD.out.later hb).cell 4, (HS3.out _ (HXD.out.later hb).below).2.2.2.2, (HUB.out _ (HXD.out.later hb).below).1⟩
        have HB0 : Hid (Below wD.heap.size wD wD) := Below.refl _ _
        refine' take_U (i := 0) (d := 61) (v := _) rfl rfl (by kernel_rfl) (by kernel_rfl) (by kernel_rfl) (by kernel_rfl) (by kernel_rfl) (by kernel_rfl) (fun _ _ _ h => h) (Or.inl ⟨by rfl, ?h0⟩) (HS7.out _ HB0.out) ?_
        case h0 => intro w hSw; obtain ⟨s0, s1, s2⟩ := hSw; go_simp; with_reducible rfl
        simp only [List.setIfInBounds_toArray, List.set_cons_zero, List.set_cons_succ]
        refine' take_U (i := 1) (d := 62) (v := _) rfl rfl (by kernel_rfl) (by kernel_rfl) (by kernel_rfl) (by kernel_rfl) (by kernel_rfl) (by kernel_rfl) (fun _ _ _ h => h) (Or.inl ⟨by rfl, ?h1⟩) (HS7.out _ HB0.out) ?_
        case h1 => intro w hSw; obtain ⟨s0, s1, s2⟩ := hSw; go_simp; with_reducible rfl
        simp only [List.setIfInBounds_toArray, List.set_cons_zero, List.set_cons_succ]
        refine' take_U (i := 3) (d := 64) (v := _) rfl rfl (by kernel_rfl) (by kernel_rfl) (by kernel_rfl) (by kernel_rfl) (by kernel_rfl) (by kernel_rfl) (fun _ _ _ h => h) (Or.inl ⟨by rfl, ?h3⟩) (HS7.out _ HB0.out) ?_
        case h3 => intro w hSw; obtain ⟨s0, s1, s2⟩ := hSw; go_simp; with_reducible rfl
        simp only [List.setIfInBounds_toArray, List.set_cons_zero, List.set_cons_succ]
        refine' take_U (i := 4) (d := 65) (v := _) rfl rfl (by kernel_rfl) (by kernel_rfl) (by kernel_rfl) (by kernel_rfl) (by kernel_rfl) (by kernel_rfl) (fun _ _ _ h => h) (Or.inl ⟨by rfl, ?h4⟩) (HS7.out _ HB0.out) ?_
        case h4 => intro w hSw; obtain ⟨s0, s1, s2⟩ := hSw; go_simp; with_reducible rfl
        simp only [List.setIfInBounds_toArray, List.set_cons_zero, List.set_cons_succ]
        refine' take_U (i := 5) (d := 66) (v := _) rfl rfl (by kernel_rfl) (by kernel_rfl) (by kernel_rfl) (by kernel_rfl) (by kernel_rfl) (by kernel_rfl) (fun _ _ _ h => h) (Or.inl ⟨by rfl, ?h5⟩) (HS7.out _ HB0.out) ?_
        case h5 => intro w hSw; obtain ⟨s0, s1, s2⟩ := hSw; go_simp; with_reducible rfl
        simp only [List.setIfInBounds_toArray, List.set_cons_zero, List.set_cons_succ]
        refine' take_U (i := 6) (d := 67) (v := _) rfl rfl (by kernel_rfl) (by kernel_rfl) (by kernel_rfl) (by kernel_rfl) (by kernel_rfl) (by kernel_rfl) (fun _ _ _ h => h) (Or.inl ⟨by rfl, ?h6⟩) (HS7.out _ HB0.out) ?_
        case h6 => intro w hSw; obtain ⟨s0, s1, s2⟩ := hSw; go_simp; with_reducible rfl
        simp only [List.setIfInBounds_toArray, List.set_cons_zero, List.set_cons_succ]
        refine' take_U (i := 7) (d := 68) (v := _) rfl rfl (by kernel_rfl) (by kernel_rfl) (by kernel_rfl) (by kernel_rfl) (by kernel_rfl) (by kernel_rfl) (fun _ _ _ h => h) (Or.inl ⟨by rfl, ?h7⟩) (HS7.out _ HB0.out) ?_
        case h7 => intro w hSw; obtain ⟨s0, s1, s2⟩ := hSw; go_simp; with_reducible rfl
        simp only [List.setIfInBounds_toArray, List.set_cons_zero, List.set_cons_succ]
        refine wpAnyU_ready (rs := [2]) (by kernel_rfl) (by simp) ?_
        refine AllReadyU.cons (o := _) rfl (fun K hK => ?_) AllReadyU.nil
        go_simp
        obtain ⟨q0, hqq⟩ : ∃ z, z = wD.heap.size := ⟨_, rfl⟩
        rw [← hqq]
        have HB1 : Hid (Below wD.heap.size wD (wD.alloc (.cells #[] 5))) := HB0.out.alloc (Nat.le_refl _) _
        have HO1 : Hid ((wD.alloc (.cells #[] 5)).ownsRow wD.heap.size 5 1 (.slice (some ⟨q0, 0, none⟩) 0 0) ([] : List UInt8).length (bc [])) := by rw [hqq]; exact World.ownsRow_made wD #[] 0 (Nat.le_refl _) (by decide) rfl
        clear hqq
        generalize wD.alloc (.cells #[] 5) = wY1 at *
        refine hK.out _ _ (fun _ _ => HS7.out _ HB1.out) ?_
        clear hK K
        refine wpAnyU_ready (rs := [8]) (by kernel_rfl) (by simp) ?_
        refine AllReadyU.cons (o := _) rfl (fun K hK => ?_) AllReadyU.nil
        refine wp_bs9 _ _ rfl wD.heap.size (.slice (some ⟨q0, 0, none⟩) 0 0) (.slice au nu cu) [] xs wY1 rfl rfl HO1.out HB1.out.size (HUB.out _ (HXD.out.later HB1.out).below).2 (by have h1 := HBS.out.2.2.2 xs (List.mem_of_getElem? HXS.out); simp only [List.length_nil]; omega) ?_
        intro v69 wY2 ho hg
        rw [List.nil_append] at ho
        have HB2 : Hid (Below wD.heap.size wD wY2) := HB1.out.grown hg HB1.out.size (fun z hz => (HO1.out.lt z hz).1)
        obtain ⟨a69, c69, hv69, hz1⟩ := row_shape9 ho
        clear hz1
        obtain ⟨n69, hn69⟩ : ∃ z, z = xs.length := ⟨_, rfl⟩
        have HN69 : Hid (n69 = xs.length) := hn69
        rw [← hn69] at hv69 ho
        subst hv69
        have HO2 : Hid (wY2.ownsRow wD.heap.size 5 1 (.slice a69 n69 c69) n69 (bc xs)) := ho
        clear ho hg hn69
        go_simp
        refine hK.out _ _ (fun _ _ => HS7.out _ HB2.out) ?_
        clear hK K
        refine wpAnyU_ready (rs := [9]) (by kernel_rfl) (by simp) ?_
        refine AllReadyU.cons (o := _) rfl (fun K hK => ?_) AllReadyU.nil
        go_simp
        obtain ⟨q1, hqq⟩ : ∃ z, z = wY2.heap.size := ⟨_, rfl⟩
        rw [← hqq]
        have HB3 : Hid (Below wD.heap.size wD (wY2.alloc (.cells #[.slice a69 n69 c69] 66))) := HB2.out.alloc HB2.out.size _
        have HO3 : Hid ((wY2.alloc (.cells #[.slice a69 n69 c69] 66)).ownsRow wO.heap.size 5 1 (.slice a69 n69 c69) xs.length (bc xs) ∧ (wY2.alloc (.cells #[.slice a69 n69 c69] 66)).cell? ⟨q1, 0, none⟩ = some (.slice a69 n69 c69)) := by
          refine ⟨?_, by rw [hqq]; exact cell?_alloc_at _ _ _ _ _ _ rfl⟩
          have e := (HO2.out.alloc (.cells #[.slice a69 n69 c69] 66)).mono HXD.out.below.size
          rw [HN69.out] at e ⊢
          exact e
        clear hqq
        generalize wY2.alloc (.cells #[.slice a69 n69 c69] 66) = wY3 at *
        refine hK.out _ _ (fun _ _ => HS7.out _ HB3.out) ?_
        clear hK K
        refine wpAnyU_ready (rs := [10]) (by kernel_rfl) (by simp) ?_
        refine AllReadyU.cons (o := _) rfl (fun K hK => ?_) AllReadyU.nil
        refine wp_row9 _ _ rfl wO.heap.size (.slice aB nB cB) (.slice a69 n69 c69) (bs.take k) xs q1 wY3 rfl rfl (HXD.out.later HB3.out).rows (HXD.out.later HB3.out).below.size HO3.out.2 HO3.out.1 (by rw [List.length_take]; have h1 := HBS.out.2.1; omega) ?_
        intro v71 wY4 hL hg hsv hge
        have HX4 : Hid (Bx wO (wY4.setCell ⟨p5, 4, none⟩ v71) p5 (x : Int) (y : Int) kd (.slice a52 n52 c52) v71 ns (bs.take (k + 1))) := by
          have e := (HXD.out.later HB3.out).put hg hL
          rw [List.take_add_one, HXS.out]
          exact e
        have HQ4 : Hid ((wY4.cell? ⟨p5, 4, none⟩ = some (.slice aB nB cB) ∧ wY4.cell? ⟨w.heap.size, 4, none⟩ = some (.slice (some ⟨gb, ob, none⟩) n2 c2) ∧ wY4.cell? ⟨gb, ob + k, none⟩ = some (.slice au nu cu)) ∧ wY4.frozen? ⟨p5, 4, none⟩ = false) := by
          have hB3 := HXD.out.later HB3.out
          obtain ⟨us, h1, _⟩ := hB3.rows
          have hb4 := (hg.block p5 hB3.lt (fun e => row_not h1 hB3.blk (by decide) p5 e.symm rfl)).trans hB3.blk
          have hbl : Below wO.heap.size wO wY4 := hB3.below.grown hg hB3.below.size (fun z hz => hge z hz)
          exact ⟨⟨by simp [World.cell?, hb4], (HS3.out _ hbl).2.2.2.2, (HUB.out _ hbl).1⟩, by simp [World.frozen?, hb4]⟩
        obtain ⟨a71, n71, c71, hv71⟩ := hsv
        subst hv71
        clear hL hg hge
        go_simp
        refine hK.out _ _ (fun _ _ => HQ4.out.1) ?_
        clear hK K
        refine' take_U (i := 11) (d := 72) (v := _) rfl rfl (by kernel_rfl) (by kernel_rfl) (by kernel_rfl) (by kernel_rfl) (by kernel_rfl) (by kernel_rfl) (fun _ _ _ h => h) (Or.inl ⟨by rfl, ?h11⟩) (HQ4.out.1) ?_
        case h11 => intro w hSw; obtain ⟨s0, s1, s2⟩ := hSw; go_simp; with_reducible rfl
        simp only [List.setIfInBounds_toArray, List.set_cons_zero, List.set_cons_succ]
        refine wpAnyU_ready (rs := [12]) (by kernel_rfl) (by simp) ?_
        refine AllReadyU.cons (o := _) rfl (fun K hK => ?_) AllReadyU.nil
        have hc := HQ4.out.1.1
        have hz := HQ4.out.2
        go_simp
        clear hc hz
        refine hK.out _ _ (fun h => absurd (by decide) h) ?_
        clear hK K
        refine wpAnyU_done (by kernel_rfl) ?_ _
        go_wp2
        go_roundw
        case rel => exact ⟨k + 1, by omega, by go_num, _, HX4.out⟩
        case measure => simp [intOf]; omega
      · have hlt' : ¬ (k : Int) < (n2 : Int) := by omega
        obtain rfl : k = n2 := by omega
        have hkl : k = bs.length := HBS.out.2.2.1
        have HXE : Hid (Bx wO wr.drew p5 (x : Int) (y : Int) kd (.slice a52 n52 c52) (.slice aB nB cB) ns bs) := by
          have e := HXK.out.later (w' := wr.drew) (Below.refl _ _).drew
          rw [List.take_of_length_le (Nat.le_of_eq hkl.symm)] at e
          exact e
        have HLT : Hid (Lite ⟨(x : Int), (y : Int), kd, ns, bs⟩) := ⟨HNS.out.2.2, by have e := HBS.out.2.1; rw [hkl] at e; exact e, HBS.out.2.2.2⟩
        clear hkl
        obtain ⟨t, ht⟩ : ∃ t : Mt, t = (⟨(x : Int), (y : Int), kd, ns, bs⟩, .slice a52 n52 c52, .slice aB nB cB) := ⟨_, rfl⟩
        have HT : Hid (t = (⟨(x : Int), (y : Int), kd, ns, bs⟩, .slice a52 n52 c52, .slice aB nB cB)) := ht
        have HE : Hid (t.2.1 = .slice a52 n52 c52 ∧ t.2.2 = .slice aB nB cB) := by
          have e : t.2.1 = .slice a52 n52 c52 ∧ t.2.2 = .slice aB nB cB := by rw [ht]; exact ⟨rfl, rfl⟩
          exact e
        have OK1 : Hid (Ok5 [t]) := fun z hz => by
          have e : z = t := by simpa using hz
          rw [e, ht]
          exact ⟨⟨_, _, _, rfl⟩, ⟨_, _, _, rfl⟩⟩
        clear ht
        have HC2 : Hid (∀ w', Below w.heap.size w w' → w'.cell? ⟨q, 2, none⟩ = some (.slice av m cv)) := fun w' hb => by
          rw [HM.out.1]
          exact Below.kept hb ((HH.out.cell 2).trans HH.out.c2)
        go_wp2_with fail
        clear z4b z4
        refine wp_region_U (fun w' => w'.cell? ⟨p5, 0, none⟩ = some (.int .i64 t.1.fr) ∧ w'.cell? ⟨p5, 1, none⟩ = some (.int .i64 t.1.to) ∧ w'.cell? ⟨p5, 2, none⟩ = some (.int .i64 t.1.kind) ∧ w'.cell? ⟨p5, 3, none⟩ = some (.slice a52 n52 c52) ∧ w'.cell? ⟨p5, 4, none⟩ = some (.slice aB nB cB) ∧ w'.cell? ⟨q, 2, none⟩ = some (.slice av m cv)) [12] (by kernel_rfl) ?_
        generalize wr.drew = wX at *
        have HBX : Hid (Below w.heap.size w wX) := HBO.out.1.trans (HXE.out.below.mono HBO.out.1.size)
        have HB0 : Hid (Below wX.heap.size wX wX) := Below.refl _ _
        have HMP : Hid (Mp wX ⟨(x : Int), (y : Int), kd, ns, bs⟩ (.slice a52 n52 c52) (.slice aB nB cB) (fun k => w.heap.size ≤ k)) := by
          have e : Mp wX ⟨(x : Int), (y : Int), kd, ns, bs⟩ (.slice a52 n52 c52) (.slice aB nB cB) (fun k => wO.heap.size ≤ k) := ⟨Nv.own HXE.out.own, Bv.own HXE.out.rows⟩
          exact e.mono (fun _ hk => Nat.le_trans HBO.out.1.size hk)
        have HC : Hid (∀ w', Below wX.heap.size wX w' → (fun w' => w'.cell? ⟨p5, 0, none⟩ = some (.int .i64 t.1.fr) ∧ w'.cell? ⟨p5, 1, none⟩ = some (.int .i64 t.1.to) ∧ w'.cell? ⟨p5, 2, none⟩ = some (.int .i64 t.1.kind) ∧ w'.cell? ⟨p5, 3, none⟩ = some (.slice a52 n52 c52) ∧ w'.cell? ⟨p5, 4, none⟩ = some (.slice aB nB cB) ∧ w'.cell? ⟨q, 2, none⟩ = some (.slice av m cv)) w') := fun w' hb => by
          have kk := (HXE.out.later hb).cell
          have k2 := HC2.out w' (HBX.out.trans (hb.mono HBX.out.size))
          rw [HT.out]
          exact ⟨kk 0, kk 1, kk 2, kk 3, kk 4, k2⟩
        refine' take_U (i := 0) (d := 73) (v := _) rfl rfl (by kernel_rfl) (by kernel_rfl) (by kernel_rfl) (by kernel_rfl) (by kernel_rfl) (by kernel_rfl) (fun _ _ _ h => h) (Or.inl ⟨by rfl, ?h0⟩) (HC.out _ HB0.out) ?_
        case h0 => intro w hSw; obtain ⟨s0, s1, s2, s3, s4, s5⟩ := hSw; go_simp; with_reducible rfl
        simp only [List.setIfInBounds_toArray, List.set_cons_zero, List.set_cons_succ]
        refine' take_U (i := 2) (d := 75) (v := _) rfl rfl (by kernel_rfl) (by kernel_rfl) (by kernel_rfl) (by kernel_rfl) (by kernel_rfl) (by kernel_rfl) (fun _ _ _ h => h) (Or.inl ⟨by rfl, ?h2⟩) (HC.out _ HB0.out) ?_
        case h2 => intro w hSw; obtain ⟨s0, s1, s2, s3, s4, s5⟩ := hSw; go_simp; with_reducible rfl
        simp only [List.setIfInBounds_toArray, List.set_cons_zero, List.set_cons_succ]
        refine' take_U (i := 3) (d := 76) (v := _) rfl rfl (by kernel_rfl) (by kernel_rfl) (by kernel_rfl) (by kernel_rfl) (by kernel_rfl) (by kernel_rfl) (fun _ _ _ h => h) (Or.inl ⟨by rfl, ?h3⟩) (HC.out _ HB0.out) ?_
        case h3 => intro w hSw; obtain ⟨s0, s1, s2, s3, s4, s5⟩ := hSw; go_simp; with_reducible rfl
        simp only [List.setIfInBounds_toArray, List.set_cons_zero, List.set_cons_succ]
        refine' take_U (i := 4) (d := 77) (v := _) rfl rfl (by kernel_rfl) (by kernel_rfl) (by kernel_rfl) (by kernel_rfl) (by kernel_rfl) (by kernel_rfl) (fun _ _ _ h => h) (Or.inl ⟨by rfl, ?h4⟩) (HC.out _ HB0.out) ?_
        case h4 => intro w hSw; obtain ⟨s0, s1, s2, s3, s4, s5⟩ := hSw; go_simp; with_reducible rfl
        simp only [List.setIfInBounds_toArray, List.set_cons_zero, List.set_cons_succ]
        refine' take_U (i := 5) (d := 78) (v := _) rfl rfl (by kernel_rfl) (by kernel_rfl) (by kernel_rfl) (by kernel_rfl) (by kernel_rfl) (by kernel_rfl) (fun _ _ _ h => h) (Or.inl ⟨by rfl, ?h5⟩) (HC.out _ HB0.out) ?_
        case h5 => intro w hSw; obtain ⟨s0, s1, s2, s3, s4, s5⟩ := hSw; go_simp; with_reducible rfl
        simp only [List.setIfInBounds_toArray, List.set_cons_zero, List.set_cons_succ]
        refine' take_U (i := 7) (d := 80) (v := _) rfl rfl (by kernel_rfl) (by kernel_rfl) (by kernel_rfl) (by kernel_rfl) (by kernel_rfl) (by kernel_rfl) (fun _ _ _ h => h) (Or.inl ⟨by rfl, ?h7⟩) (HC.out _ HB0.out) ?_
        case h7 => intro w hSw; obtain ⟨s0, s1, s2, s3, s4, s5⟩ := hSw; go_simp; with_reducible rfl
        simp only [List.setIfInBounds_toArray, List.set_cons_zero, List.set_cons_succ]
        refine wpAnyU_ready (rs := [1, 8]) (by kernel_rfl) (by simp) ?_
        refine AllReadyU.cons (o := _) rfl (fun K hK => ?_) (AllReadyU.cons (o := _) rfl (fun K hK => ?_) AllReadyU.nil)
        · go_simp
          obtain ⟨q0, hqq⟩ : ∃ z, z = wX.heap.size := ⟨_, rfl⟩
          rw [← hqq]
          have HB1 : Hid (Below wX.heap.size wX (wX.alloc (.cells #[] 47))) := HB0.out.alloc HB0.out.size _
          have HO1 : Hid ((wX.alloc (.cells #[] 47)).ownsRow wX.heap.size 47 5 (.slice (some ⟨q0, 0, none⟩) 0 0) 0 (cs5 [])) := by
            have e := (World.ownsRow_made wX (e := 47) (size := 5) #[] 0 (Nat.le_refl _) (by decide) rfl).mono HB0.out.size
            rw [hqq]
            exact e
          clear hqq
          generalize wX.alloc (.cells #[] 47) = wY1 at *
          refine hK.out _ _ (fun _ _ => HC.out _ HB1.out) ?_
          clear hK K
          refine wpAnyU_ready (rs := [6, 8]) (by kernel_rfl) (by simp) ?_
          refine AllReadyU.cons (o := _) rfl (fun K hK => ?_) (AllReadyU.cons (o := _) rfl (fun K hK => ?_) AllReadyU.nil)
          · refine wp_msgs 47 38 Try.underlying38 (.agg #[.int .i64 0, .int .i64 0, .int .i64 0, .slice none 0 0, .slice none 0 0]) rfl infoMsg _ _ rfl wX.heap.size (.slice (some ⟨q0, 0, none⟩) 0 0) (.slice av m cv) 0 [] ts wY1 rfl rfl HO1.out HB1.out.size (by have e := HH.out.src (HBX.out.trans (HB1.out.mono HBX.out.size)); rw [← HM.out.1] at e; exact e) HH.out.ok (by rw [← HM.out.1]; have h2 := HM.out.2; omega) ?_
            intro v34 wY2 ho hg hat
            have HB2 : Hid (Below wX.heap.size wX wY2) := HB1.out.grown hg HB1.out.size (fun z hz => (HO1.out.lt z hz).1)
            rw [List.nil_append, Nat.zero_add] at ho
            obtain ⟨n34, hn34⟩ : ∃ z, z = ts.length := ⟨_, rfl⟩
            have HN34 : Hid (n34 = ts.length) := hn34
            rw [← hn34] at ho
            obtain ⟨a34, c34, hv34, _⟩ := row_shape9 ho
            subst hv34
            have HP2 : Hid (wY2.ownsRow wX.heap.size 47 5 (.slice a34 n34 c34) n34 (cs5 ts)) := ho
            clear ho hg hat hn34
            go_simp
            refine hK.out _ _ (fun _ _ => HC.out _ HB2.out) ?_
            clear hK K
            refine wpAnyU_ready (rs := [8]) (by kernel_rfl) (by simp) ?_
            refine AllReadyU.cons (o := _) rfl (fun K hK => ?_) AllReadyU.nil
            go_simp
            obtain ⟨q1, hqq⟩ : ∃ z, z = wY2.heap.size := ⟨_, rfl⟩
            rw [← hqq]
            have HB3 : Hid (Below wX.heap.size wX (wY2.alloc (.cells #[.int .i64 t.1.fr, .int .i64 t.1.to, .int .i64 t.1.kind, .slice a52 n52 c52, .slice aB nB cB] 47))) := HB2.out.alloc HB2.out.size _
            have HQ3 : Hid (∀ i u, ([.int .i64 t.1.fr, .int .i64 t.1.to, .int .i64 t.1.kind, .slice a52 n52 c52, .slice aB nB cB] : List Value)[i]? = some u → (wY2.alloc (.cells #[.int .i64 t.1.fr, .int .i64 t.1.to, .int .i64 t.1.kind, .slice a52 n52 c52, .slice aB nB cB] 47)).cell? ⟨q1, i, none⟩ = some u) := fun i u hu => by
              rw [hqq]
              exact cell?_alloc_at _ _ _ _ _ _ (by simpa using hu)
            have HP3 : Hid ((wY2.alloc (.cells #[.int .i64 t.1.fr, .int .i64 t.1.to, .int .i64 t.1.kind, .slice a52 n52 c52, .slice aB nB cB] 47)).ownsRow wX.heap.size 47 5 (.slice a34 n34 c34) n34 (cs5 ts)) := HP2.out.alloc _
            clear hqq
            generalize wY2.alloc (.cells #[.int .i64 t.1.fr, .int .i64 t.1.to, .int .i64 t.1.kind, .slice a52 n52 c52, .slice aB nB cB] 47) = wY3 at *
            refine hK.out _ _ (fun _ _ => HC.out _ HB3.out) ?_
            clear hK K
            refine wpAnyU_ready (rs := [9]) (by kernel_rfl) (by simp) ?_
            refine AllReadyU.cons (o := _) rfl (fun K hK => ?_) AllReadyU.nil
            refine wp_msgs 47 38 Try.underlying38 (.agg #[.int .i64 0, .int .i64 0, .int .i64 0, .slice none 0 0, .slice none 0 0]) rfl infoMsg _ _ rfl wX.heap.size (.slice a34 n34 c34) (.slice (some ⟨q1, 0, none⟩) 1 1) n34 ts [t] wY3 rfl rfl HP3.out HB3.out.size (one_src HE.out.1 HE.out.2 HQ3.out) OK1.out (by have h1 := HN34.out; have h2 := HM.out; simp only [List.length_singleton]; omega) ?_
            intro v42 wY4 ho hg hat
            have HB4 : Hid (Below wX.heap.size wX wY4) := HB3.out.grown hg HB3.out.size (fun z hz => (HP3.out.lt z hz).1)
            have HO4 : Hid (wY4.ownsRow wX.heap.size 47 5 v42 (ts ++ [t]).length (cs5 (ts ++ [t]))) := by
              have e := ho
              rw [HN34.out] at e
              rw [List.length_append]
              exact e
            obtain ⟨a42, c42, hv42, _⟩ := row_shape9 ho
            obtain ⟨n42, hn42⟩ : ∃ z, z = n34 + [t].length := ⟨_, rfl⟩
            rw [← hn42] at hv42
            subst hv42
            clear ho hg hat hn42
            have HQ9 : Hid (wY4.cell? ⟨q, 2, none⟩ = some (.slice av m cv) ∧ wY4.frozen? ⟨q, 2, none⟩ = false) := ⟨HC2.out _ (HBX.out.trans (HB4.out.mono HBX.out.size)), (HH.out.below (HBX.out.trans (HB4.out.mono HBX.out.size))).free 2⟩
            go_simp
            refine hK.out _ _ (fun _ _ => HC.out _ HB4.out) ?_
            clear hK K
            refine' take_U (i := 10) (d := 83) (v := _) rfl rfl (by kernel_rfl) (by kernel_rfl) (by kernel_rfl) (by kernel_rfl) (by kernel_rfl) (by kernel_rfl) (fun _ _ _ h => h) (Or.inl ⟨by rfl, ?h10⟩) (HC.out _ HB4.out) ?_
            case h10 => intro w hSw; go_simp; with_reducible rfl
            simp only [List.setIfInBounds_toArray, List.set_cons_zero, List.set_cons_succ]
            refine' take_U (i := 11) (d := 84) (v := _) rfl rfl (by kernel_rfl) (by kernel_rfl) (by kernel_rfl) (by kernel_rfl) (by kernel_rfl) (by kernel_rfl) (fun _ _ _ h => h) (Or.inl ⟨by rfl, ?h11⟩) (HC.out _ HB4.out) ?_
            case h11 => intro w hSw; go_simp; with_reducible rfl
            simp only [List.setIfInBounds_toArray, List.set_cons_zero, List.set_cons_succ]
            refine wpAnyU_ready (rs := [12]) (by kernel_rfl) (by simp) ?_
            refine AllReadyU.cons (o := _) rfl (fun K hK => ?_) AllReadyU.nil
            have hc := HQ9.out.1
            have hz := HQ9.out.2
            go_simp
            clear hc hz
            refine hK.out _ _ (fun h => absurd (by decide) h) ?_
            clear hK K
            refine wpAnyU_done (by kernel_rfl) ?_ _
            have HNR : Hid (∃ G' v2 ts' C', Rf9 (wY4.setCell ⟨q, 2, none⟩ (.slice a42 n42 c42)) q (Nq.put n ⟨(x : Int), (y : Int), kd, ns, bs⟩) G' v2 ts' C' ∧ Moved w (wY4.setCell ⟨q, 2, none⟩ (.slice a42 n42 c42)) (Gq q G) (Gq q G')) := HH.out.putRow HBX.out HB4.out (by have e := HO4.out; rw [HT.out] at e; exact e) HMAY.out HMP.out HLT.out
            go_wp2
            go_ret
            obtain ⟨G', v2, ts', C', h8, h9⟩ := HNR.out
            exact ⟨rfl, G', ⟨v2, ts', C', h8⟩, h9⟩
          · go_simp
            obtain ⟨q1, hqq⟩ : ∃ z, z = wY1.heap.size := ⟨_, rfl⟩
            rw [← hqq]
            have HB2 : Hid (Below wX.heap.size wX (wY1.alloc (.cells #[.int .i64 t.1.fr, .int .i64 t.1.to, .int .i64 t.1.kind, .slice a52 n52 c52, .slice aB nB cB] 47))) := HB1.out.alloc HB1.out.size _
            have HQ2 : Hid (∀ i u, ([.int .i64 t.1.fr, .int .i64 t.1.to, .int .i64 t.1.kind, .slice a52 n52 c52, .slice aB nB cB] : List Value)[i]? = some u → (wY1.alloc (.cells #[.int .i64 t.1.fr, .int .i64 t.1.to, .int .i64 t.1.kind, .slice a52 n52 c52, .slice aB nB cB] 47)).cell? ⟨q1, i, none⟩ = some u) := fun i u hu => by
              rw [hqq]
              exact cell?_alloc_at _ _ _ _ _ _ (by simpa using hu)
            have HO2 : Hid ((wY1.alloc (.cells #[.int .i64 t.1.fr, .int .i64 t.1.to, .int .i64 t.1.kind, .slice a52 n52 c52, .slice aB nB cB] 47)).ownsRow wX.heap.size 47 5 (.slice (some ⟨q0, 0, none⟩) 0 0) 0 (cs5 [])) := HO1.out.alloc _
            have HNE : Hid (q1 ≠ q0) := by
              have e := (HO1.out.lt q0 rfl).2
              have e2 : q1 ≠ q0 := by rw [hqq]; omega
              exact e2
            clear hqq
            generalize wY1.alloc (.cells #[.int .i64 t.1.fr, .int .i64 t.1.to, .int .i64 t.1.kind, .slice a52 n52 c52, .slice aB nB cB] 47) = wY2 at *
            refine hK.out _ _ (fun _ _ => HC.out _ HB2.out) ?_
            clear hK K
            refine wpAnyU_ready (rs := [6]) (by kernel_rfl) (by simp) ?_
            refine AllReadyU.cons (o := _) rfl (fun K hK => ?_) AllReadyU.nil
            refine wp_msgs 47 38 Try.underlying38 (.agg #[.int .i64 0, .int .i64 0, .int .i64 0, .slice none 0 0, .slice none 0 0]) rfl infoMsg _ _ rfl wX.heap.size (.slice (some ⟨q0, 0, none⟩) 0 0) (.slice av m cv) 0 [] ts wY2 rfl rfl HO2.out HB2.out.size (by have e := HH.out.src (HBX.out.trans (HB2.out.mono HBX.out.size)); rw [← HM.out.1] at e; exact e) HH.out.ok (by rw [← HM.out.1]; have h2 := HM.out.2; omega) ?_
            intro v34 wY3 ho hg hat
            have HB3 : Hid (Below wX.heap.size wX wY3) := HB2.out.grown hg HB2.out.size (fun z hz => (HO2.out.lt z hz).1)
            have HQ3 : Hid (∀ i u, ([.int .i64 t.1.fr, .int .i64 t.1.to, .int .i64 t.1.kind, .slice a52 n52 c52, .slice aB nB cB] : List Value)[i]? = some u → wY3.cell? ⟨q1, i, none⟩ = some u) := fun i u hu => hg.cell (HQ2.out i u hu) (fun e => HNE.out (by simpa [Value.ownBlock] using e))
            rw [List.nil_append, Nat.zero_add] at ho
            obtain ⟨n34, hn34⟩ : ∃ z, z = ts.length := ⟨_, rfl⟩
            have HN34 : Hid (n34 = ts.length) := hn34
            rw [← hn34] at ho
            obtain ⟨a34, c34, hv34, _⟩ := row_shape9 ho
            subst hv34
            have HP3 : Hid (wY3.ownsRow wX.heap.size 47 5 (.slice a34 n34 c34) n34 (cs5 ts)) := ho
            clear ho hg hat hn34
            go_simp
            refine hK.out _ _ (fun _ _ => HC.out _ HB3.out) ?_
            clear hK K
            refine wpAnyU_ready (rs := [9]) (by kernel_rfl) (by simp) ?_
            refine AllReadyU.cons (o := _) rfl (fun K hK => ?_) AllReadyU.nil
            refine wp_msgs 47 38 Try.underlying38 (.agg #[.int .i64 0, .int .i64 0, .int .i64 0, .slice none 0 0, .slice none 0 0]) rfl infoMsg _ _ rfl wX.heap.size (.slice a34 n34 c34) (.slice (some ⟨q1, 0, none⟩) 1 1) n34 ts [t] wY3 rfl rfl HP3.out HB3.out.size (one_src HE.out.1 HE.out.2 HQ3.out) OK1.out (by have h1 := HN34.out; have h2 := HM.out; simp only [List.length_singleton]; omega) ?_
            intro v42 wY4 ho hg hat
            have HB4 : Hid (Below wX.heap.size wX wY4) := HB3.out.grown hg HB3.out.size (fun z hz => (HP3.out.lt z hz).1)
            have HO4 : Hid (wY4.ownsRow wX.heap.size 47 5 v42 (ts ++ [t]).length (cs5 (ts ++ [t]))) := by
              have e := ho
              rw [HN34.out] at e
              rw [List.length_append]
              exact e
            obtain ⟨a42, c42, hv42, _⟩ := row_shape9 ho
            obtain ⟨n42, hn42⟩ : ∃ z, z = n34 + [t].length := ⟨_, rfl⟩
            rw [← hn42] at hv42
            subst hv42
            clear ho hg hat hn42
            have HQ9 : Hid (wY4.cell? ⟨q, 2, none⟩ = some (.slice av m cv) ∧ wY4.frozen? ⟨q, 2, none⟩ = false) := ⟨HC2.out _ (HBX.out.trans (HB4.out.mono HBX.out.size)), (HH.out.below (HBX.out.trans (HB4.out.mono HBX.out.size))).free 2⟩
            go_simp
            refine hK.out _ _ (fun _ _ => HC.out _ HB4.out) ?_
            clear hK K
            refine' take_U (i := 10) (d := 83) (v := _) rfl rfl (by kernel_rfl) (by kernel_rfl) (by kernel_rfl) (by kernel_rfl) (by kernel_rfl) (by kernel_rfl) (fun _ _ _ h => h) (Or.inl ⟨by rfl, ?h10⟩) (HC.out _ HB4.out) ?_
            case h10 => intro w hSw; go_simp; with_reducible rfl
            simp only [List.setIfInBounds_toArray, List.set_cons_zero, List.set_cons_succ]
            refine' take_U (i := 11) (d := 84) (v := _) rfl rfl (by kernel_rfl) (by kernel_rfl) (by kernel_rfl) (by kernel_rfl) (by kernel_rfl) (by kernel_rfl) (fun _ _ _ h => h) (Or.inl ⟨by rfl, ?h11⟩) (HC.out _ HB4.out) ?_
            case h11 => intro w hSw; go_simp; with_reducible rfl
            simp only [List.setIfInBounds_toArray, List.set_cons_zero, List.set_cons_succ]
            refine wpAnyU_ready (rs := [12]) (by kernel_rfl) (by simp) ?_
            refine AllReadyU.cons (o := _) rfl (fun K hK => ?_) AllReadyU.nil
            have hc := HQ9.out.1
            have hz := HQ9.out.2
            go_simp
            clear hc hz
            refine hK.out _ _ (fun h => absurd (by decide) h) ?_
            clear hK K
            refine wpAnyU_done (by kernel_rfl) ?_ _
            have HNR : Hid (∃ G' v2 ts' C', Rf9 (wY4.setCell ⟨q, 2, none⟩ (.slice a42 n42 c42)) q (Nq.put n ⟨(x : Int), (y : Int), kd, ns, bs⟩) G' v2 ts' C' ∧ Moved w (wY4.setCell ⟨q, 2, none⟩ (.slice a42 n42 c42)) (Gq q G) (Gq q G')) := HH.out.putRow HBX.out HB4.out (by have e := HO4.out; rw [HT.out] at e; exact e) HMAY.out HMP.out HLT.out
            go_wp2
            go_ret
            obtain ⟨G', v2, ts', C', h8, h9⟩ := HNR.out
            exact ⟨rfl, G', ⟨v2, ts', C', h8⟩, h9⟩
        · go_simp
          obtain ⟨q1, hqq⟩ : ∃ z, z = wX.heap.size := ⟨_, rfl⟩
          rw [← hqq]
          have HB1 : Hid (Below wX.heap.size wX (wX.alloc (.cells #[.int .i64 t.1.fr, .int .i64 t.1.to, .int .i64 t.1.kind, .slice a52 n52 c52, .slice aB nB cB] 47))) := HB0.out.alloc HB0.out.size _
          have HQ1 : Hid (∀ i u, ([.int .i64 t.1.fr, .int .i64 t.1.to, .int .i64 t.1.kind, .slice a52 n52 c52, .slice aB nB cB] : List Value)[i]? = some u → (wX.alloc (.cells #[.int .i64 t.1.fr, .int .i64 t.1.to, .int .i64 t.1.kind, .slice a52 n52 c52, .slice aB nB cB] 47)).cell? ⟨q1, i, none⟩ = some u) := fun i u hu => by
            rw [hqq]
            exact cell?_alloc_at _ _ _ _ _ _ (by simpa using hu)
          clear hqq
          generalize wX.alloc (.cells #[.int .i64 t.1.fr, .int .i64 t.1.to, .int .i64 t.1.kind, .slice a52 n52 c52, .slice aB nB cB] 47) = wY1 at *
          refine hK.out _ _ (fun _ _ => HC.out _ HB1.out) ?_
          clear hK K
          refine wpAnyU_ready (rs := [1]) (by kernel_rfl) (by simp) ?_
          refine AllReadyU.cons (o := _) rfl (fun K hK => ?_) AllReadyU.nil
          go_simp
          obtain ⟨q0, hqq⟩ : ∃ z, z = wY1.heap.size := ⟨_, rfl⟩
          rw [← hqq]
          have HB2 : Hid (Below wX.heap.size wX (wY1.alloc (.cells #[] 47))) := HB1.out.alloc HB1.out.size _
          have HO2 : Hid ((wY1.alloc (.cells #[] 47)).ownsRow wX.heap.size 47 5 (.slice (some ⟨q0, 0, none⟩) 0 0) 0 (cs5 [])) := by
            have e := (World.ownsRow_made wY1 (e := 47) (size := 5) #[] 0 (Nat.le_refl _) (by decide) rfl).mono HB1.out.size
            rw [hqq]
            exact e
          have HQ2 : Hid (∀ i u, ([.int .i64 t.1.fr, .int .i64 t.1.to, .int .i64 t.1.kind, .slice a52 n52 c52, .slice aB nB cB] : List Value)[i]? = some u → (wY1.alloc (.cells #[] 47)).cell? ⟨q1, i, none⟩ = some u) := fun i u hu => Below.kept ((Below.refl _ _).alloc (Nat.le_refl _) _) (HQ1.out i u hu)
          have HNE : Hid (q1 ≠ q0) := by
            have e := World.block_lt_of_cell? _ _ (HQ1.out 0 _ rfl)
            have e2 : q1 ≠ q0 := by rw [hqq]; exact Nat.ne_of_lt e
            exact e2
          clear hqq
          generalize wY1.alloc (.cells #[] 47) = wY2 at *
          refine hK.out _ _ (fun _ _ => HC.out _ HB2.out) ?_
          clear hK K
          refine wpAnyU_ready (rs := [6]) (by kernel_rfl) (by simp) ?_
          refine AllReadyU.cons (o := _) rfl (fun K hK => ?_) AllReadyU.nil
          refine wp_msgs 47 38 Try.underlying38 (.agg #[.int .i64 0, .int .i64 0, .int .i64 0, .slice none 0 0, .slice none 0 0]) rfl infoMsg _ _ rfl wX.heap.size (.slice (some ⟨q0, 0, none⟩) 0 0) (.slice av m cv) 0 [] ts wY2 rfl rfl HO2.out HB2.out.size (by have e := HH.out.src (HBX.out.trans (HB2.out.mono HBX.out.size)); rw [← HM.out.1] at e; exact e) HH.out.ok (by rw [← HM.out.1]; have h2 := HM.out.2; omega) ?_
          intro v34 wY3 ho hg hat
          have HB3 : Hid (Below wX.heap.size wX wY3) := HB2.out.grown hg HB2.out.size (fun z hz => (HO2.out.lt z hz).1)
          have HQ3 : Hid (∀ i u, ([.int .i64 t.1.fr, .int .i64 t.1.to, .int .i64 t.1.kind, .slice a52 n52 c52, .slice aB nB cB] : List Value)[i]? = some u → wY3.cell? ⟨q1, i, none⟩ = some u) := fun i u hu => hg.cell (HQ2.out i u hu) (fun e => HNE.out (by simpa [Value.ownBlock] using e))
          rw [List.nil_append, Nat.zero_add] at ho
          obtain ⟨n34, hn34⟩ : ∃ z, z = ts.length := ⟨_, rfl⟩
          have HN34 : Hid (n34 = ts.length) := hn34
          rw [← hn34] at ho
          obtain ⟨a34, c34, hv34, _⟩ := row_shape9 ho
          subst hv34
          have HP3 : Hid (wY3.ownsRow wX.heap.size 47 5 (.slice a34 n34 c34) n34 (cs5 ts)) := ho
          clear ho hg hat hn34
          go_simp
          refine hK.out _ _ (fun _ _ => HC.out _ HB3.out) ?_
          clear hK K
          refine wpAnyU_ready (rs := [9]) (by kernel_rfl) (by simp) ?_
          refine AllReadyU.cons (o := _) rfl (fun K hK => ?_) AllReadyU.nil
          refine wp_msgs 47 38 Try.underlying38 (.agg #[.int .i64 0, .int .i64 0, .int .i64 0, .slice none 0 0, .slice none 0 0]) rfl infoMsg _ _ rfl wX.heap.size (.slice a34 n34 c34) (.slice (some ⟨q1, 0, none⟩) 1 1) n34 ts [t] wY3 rfl rfl HP3.out HB3.out.size (one_src HE.out.1 HE.out.2 HQ3.out) OK1.out (by have h1 := HN34.out; have h2 := HM.out; simp only [List.length_singleton]; omega) ?_
          intro v42 wY4 ho hg hat
          have HB4 : Hid (Below wX.heap.size wX wY4) := HB3.out.grown hg HB3.out.size (fun z hz => (HP3.out.lt z hz).1)
          have HO4 : Hid (wY4.ownsRow wX.heap.size 47 5 v42 (ts ++ [t]).length (cs5 (ts ++ [t]))) := by
            have e := ho
            rw [HN34.out] at e
            rw [List.length_append]
            exact e
          obtain ⟨a42, c42, hv42, _⟩ := row_shape9 ho
          obtain ⟨n42, hn42⟩ : ∃ z, z = n34 + [t].length := ⟨_, rfl⟩
          rw [← hn42] at hv42
          subst hv42
          clear ho hg hat hn42
          have HQ9 : Hid (wY4.cell? ⟨q, 2, none⟩ = some (.slice av m cv) ∧ wY4.frozen? ⟨q, 2, none⟩ = false) := ⟨HC2.out _ (HBX.out.trans (HB4.out.mono HBX.out.size)), (HH.out.below (HBX.out.trans (HB4.out.mono HBX.out.size))).free 2⟩
          go_simp
          refine hK.out _ _ (fun _ _ => HC.out _ HB4.out) ?_
          clear hK K
          refine' take_U (i := 10) (d := 83) (v := _) rfl rfl (by kernel_rfl) (by kernel_rfl) (by kernel_rfl) (by kernel_rfl) (by kernel_rfl) (by kernel_rfl) (fun _ _ _ h => h) (Or.inl ⟨by rfl, ?h10⟩) (HC.out _ HB4.out) ?_
          case h10 => intro w hSw; go_simp; with_reducible rfl
          simp only [List.setIfInBounds_toArray, List.set_cons_zero, List.set_cons_succ]
          refine' take_U (i := 11) (d := 84) (v := _) rfl rfl (by kernel_rfl) (by kernel_rfl) (by kernel_rfl) (by kernel_rfl) (by kernel_rfl) (by kernel_rfl) (fun _ _ _ h => h) (Or.inl ⟨by rfl, ?h11⟩) (HC.out _ HB4.out) ?_
          case h11 => intro w hSw; go_simp; with_reducible rfl
          simp only [List.setIfInBounds_toArray, List.set_cons_zero, List.set_cons_succ]
          refine wpAnyU_ready (rs := [12]) (by kernel_rfl) (by simp) ?_
          refine AllReadyU.cons (o := _) rfl (fun K hK => ?_) AllReadyU.nil
          have hc := HQ9.out.1
          have hz := HQ9.out.2
          go_simp
          clear hc hz
          refine hK.out _ _ (fun h => absurd (by decide) h) ?_
          clear hK K
          refine wpAnyU_done (by kernel_rfl) ?_ _
          have HNR : Hid (∃ G' v2 ts' C', Rf9 (wY4.setCell ⟨q, 2, none⟩ (.slice a42 n42 c42)) q (Nq.put n ⟨(x : Int), (y : Int), kd, ns, bs⟩) G' v2 ts' C' ∧ Moved w (wY4.setCell ⟨q, 2, none⟩ (.slice a42 n42 c42)) (Gq q G) (Gq q G')) := HH.out.putRow HBX.out HB4.out (by have e := HO4.out; rw [HT.out] at e; exact e) HMAY.out HMP.out HLT.out
          go_wp2
          go_ret
          obtain ⟨G', v2, ts', C', h8, h9⟩ := HNR.out
          exact ⟨rfl, G', ⟨v2, ts', C', h8⟩, h9⟩

theorem refSend_any (q : Nat) (n : Nq.Nt) (G : Nat → Prop) (v : Value) (ts : List Mt) (C : List Value) (fr tt kd : Int) (a1 a2 : Option Addr) (n1 c1 n2 c2 : Nat) (w : World) (h : Rf9 w q n G v ts C) (ns : List Int) (bs : List (List UInt8)) (hbs : Bl w (.slice a2 n2 c2) bs) (hbl : bs.length ≤ 2000000) (hbr : ∀ z ∈ bs, z.length ≤ 140737488355328) (hns : Bi w (.slice a1 n1 c1) ns) (hn1 : (∃ ad k c, Value.slice a1 n1 c1 = .slice (some ad) k c) ∨ Value.slice a1 n1 c1 = .slice none 0 0) (hnl : ns.length ≤ 2000000) :
    Calls Try.prog 15 #[dptr q, .agg #[.int .i64 fr, .int .i64 tt, .int .i64 kd, .slice a1 n1 c1, .slice a2 n2 c2]] w fun e w' => e = .returned (.bool (Nq.may n ⟨fr, tt, kd, ns, bs⟩)) ∧ ∃ G' v2 ts' C', Rf9 w' q (Nq.put n ⟨fr, tt, kd, ns, bs⟩) G' v2 ts' C' ∧ Moved w w' (Gq q G) (Gq q G') := by
  have hno : Nq.may n ⟨fr, tt, kd, ns, bs⟩ = false → Calls Try.prog 15 #[dptr q, .agg #[.int .i64 fr, .int .i64 tt, .int .i64 kd, .slice a1 n1 c1, .slice a2 n2 c2]] w (fun e w' => e = .returned (.bool false) ∧ Below w.heap.size w w') → Calls Try.prog 15 #[dptr q, .agg #[.int .i64 fr, .int .i64 tt, .int .i64 kd, .slice a1 n1 c1, .slice a2 n2 c2]] w fun e w' => e = .returned (.bool (Nq.may n ⟨fr, tt, kd, ns, bs⟩)) ∧ ∃ G' v2 ts' C', Rf9 w' q (Nq.put n ⟨fr, tt, kd, ns, bs⟩) G' v2 ts' C' ∧ Moved w w' (Gq q G) (Gq q G') := fun hf hc => by
    rw [hf, Nq.put_no hf]
    refine hc.mono ?_
    rintro e w' ⟨rfl, hb⟩
    exact ⟨rfl, G, v, ts, C, h.below hb, Moved.of_below _ hb⟩
  cases e1 : Nq.node n fr with
  | false => exact hno (by unfold Nq.may; rw [e1]; rfl) (refSend_no1 q n G v ts C fr tt kd a1 a2 n1 c1 n2 c2 w h e1)
  | true =>
    cases e2 : Nq.node n tt with
    | false => exact hno (by unfold Nq.may; rw [e1, e2]; rfl) (refSend_no2 q n G v ts C fr tt kd a1 a2 n1 c1 n2 c2 w h e1 e2)
    | true =>
      cases e3 : n.cut fr.toNat tt.toNat with
      | true => exact hno (by unfold Nq.may; rw [e1, e2, e3]; rfl) (refSend_no3 q n G v ts C fr tt kd a1 a2 n1 c1 n2 c2 w h e1 e2 e3)
      | false =>
        by_cases e4 : n.room ≤ ts.length
        · exact hno (by unfold Nq.may; rw [e1, e2, e3, decide_eq_false (by rw [← h.tlen]; omega)]; rfl) (refSend_no4 q n G v ts C fr tt kd a1 a2 n1 c1 n2 c2 w h e1 e2 e3 e4)
        · rw [show Nq.may n ⟨fr, tt, kd, ns, bs⟩ = true from Nq.may_iff.2 ⟨e1, e2, e3, by rw [← h.tlen]; omega⟩]
          exact refSend_yes q n G v ts C fr tt kd a1 a2 n1 c1 n2 c2 w h ns bs hbs hbl hbr hns hn1 hnl e1 e2 e3 e4
end Go.Proofs.Ytkldecdjokfajaa
