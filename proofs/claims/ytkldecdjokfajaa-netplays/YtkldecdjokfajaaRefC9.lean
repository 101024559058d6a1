/- What the reference's network answers to Copy. -/
import Derived.Test.YtkldecdjokfajaaRefT9
namespace Go.Proofs.Ytkldecdjokfajaa
open Go.RowKit

theorem mem_more {ts : List Mt} {t x : Mt} (hx : x ∈ ts ++ [t]) (ht : t ∈ ts) : x ∈ ts := by
  rcases List.mem_append.1 hx with h | h
  · exact h
  · simp at h
    rw [h]
    exact ht
theorem copy_ms {w : World} {q j : Nat} {n : Nq.Nt} {G : Nat → Prop} {v : Value} {ts : List Mt} {C : List Value} {t : Mt} (h : Rf9 w q n G v ts C) (ht : ts[j]? = some t) (hm : Nq.mayCopy n (j : Int) = true) : (ts ++ [t]).map (·.1) = (Nq.copy n (j : Int)).l := by
  unfold Nq.copy
  rw [if_pos hm]
  show _ = n.l ++ [Nq.at_ n (j : Int)]
  rw [List.map_append, h.ms, (h.msg ht).2]
  rfl
theorem copy_same (n : Nq.Nt) (k : Int) : (Nq.copy n k).nodes = n.nodes ∧ (Nq.copy n k).room = n.room ∧ (Nq.copy n k).cut = n.cut := by
  unfold Nq.copy
  split <;> exact ⟨rfl, rfl, rfl⟩

set_option maxRecDepth 20000 in
set_option maxHeartbeats 4000000 in
theorem refCopy_no (q : Nat) (n : Nq.Nt) (G : Nat → Prop) (v : Value) (ts : List Mt) (C : List Value) (k : Int) (w : World) (h : Rf9 w q n G v ts C) (hk : k < 0 ∨ (ts.length : Int) ≤ k ∨ n.room ≤ ts.length) :
    Calls Try.prog 20 #[dptr q, .int .i64 k] w fun e w' => e = .returned (.bool false) ∧ Below w.heap.size w w' := by
  have l2 : w.cell? ⟨q, 2, none⟩ = some v := (h.cell 2).trans h.c2
  have l1 : w.cell? ⟨q, 1, none⟩ = some (.int .i64 (n.room : Int)) := (h.cell 1).trans h.c1
  obtain ⟨av, cv, rfl, _⟩ := h.slice
  obtain ⟨m, hm⟩ : ∃ m, m = ts.length := ⟨_, rfl⟩
  obtain ⟨r, hr⟩ : ∃ r, r = n.room := ⟨_, rfl⟩
  rw [← hm] at l2 hk
  rw [← hr] at l1 hk
  clear h hm hr
  by_cases h1 : k < 0
  · have b1 : decide (k < 0) = true := decide_eq_true h1
    clear hk
    go_enter Try.func20, Try.ntmps20
    go_wp2
    go_quiet (fail)
    go_wp2
    go_ret
    exact ⟨rfl, below_drewN (Below.refl _ _) _⟩
  · have b1 : decide (k < 0) = false := decide_eq_false h1
    by_cases h2 : (m : Int) ≤ k
    · have b2 : decide ((m : Int) ≤ k) = true := decide_eq_true h2
      clear hk
      go_enter Try.func20, Try.ntmps20
      go_wp2
      go_quiet (fail)
      go_wp2
      go_ret
      exact ⟨rfl, below_drewN (Below.refl _ _) _⟩
    · have b2 : decide ((m : Int) ≤ k) = false := decide_eq_false h2
      have h3 : (r : Int) ≤ (m : Int) := by omega
      have b3 : decide ((r : Int) ≤ (m : Int)) = true := decide_eq_true h3
      clear hk
      go_enter Try.func20, Try.ntmps20
      go_wp2
      go_quiet (fail)
      go_wp2
      go_ret
      exact ⟨rfl, below_drewN (Below.refl _ _) _⟩

set_option maxRecDepth 20000 in
set_option maxHeartbeats 8000000 in
theorem refCopy_yes (q : Nat) (n : Nq.Nt) (G : Nat → Prop) (v : Value) (ts : List Mt) (C : List Value) (j : Nat) (t : Mt) (w : World) (h : Rf9 w q n G v ts C) (ht : ts[j]? = some t) (hroom : ts.length < n.room) :
    Calls Try.prog 20 #[dptr q, .int .i64 (j : Int)] w fun e w' => ∃ G' v' ts' C', e = .returned (.bool true) ∧ Rf9 w' q (Nq.copy n (j : Int)) G' v' ts' C' ∧ Moved w w' (Gq q G) (Gq q G') := by
  have HH : Hid (Rf9 w q n G v ts C) := h
  have HT : Hid (ts[j]? = some t) := ht
  have hjt := (List.getElem?_eq_some_iff.1 ht).1
  obtain ⟨g, cv, rfl, hgg, hcv, hcell⟩ : ∃ g c, v = .slice (some ⟨g, 0, none⟩) ts.length c ∧ G g ∧ ts.length ≤ c ∧ ∀ i x, (cs5 ts)[i]? = some x → w.cell? ⟨g, i, none⟩ = some x := by
    rcases h.row with ⟨_, e⟩ | e
    · rw [e] at hjt
      exact absurd hjt (Nat.not_lt_zero _)
    · exact e
  obtain ⟨⟨aa, na, ca, ea⟩, ⟨ab, nb, cb, eb⟩⟩ := h.ok t (List.mem_of_getElem? ht)
  have HE : Hid (t.2.1 = .slice aa na ca ∧ t.2.2 = .slice ab nb cb) := ⟨ea, eb⟩
  have OK1 : Hid (Ok5 [t]) := fun x hx => by
    simp at hx
    rw [hx]
    exact ⟨⟨_, _, _, ea⟩, ⟨_, _, _, eb⟩⟩
  obtain ⟨m, hm⟩ : ∃ m, m = ts.length := ⟨_, rfl⟩
  have HM : Hid (m = ts.length ∧ m ≤ 65536) := ⟨hm, by rw [hm, h.tlen]; exact Nat.le_trans h.fine.fits h.fine.room⟩
  obtain ⟨r, hr⟩ : ∃ r, r = n.room := ⟨_, rfl⟩
  have HRM : Hid (Nq.mayCopy n (j : Int) = true) := by
    have e : Nq.mayCopy n (j : Int) = true := by
      unfold Nq.mayCopy
      rw [(h.msg ht).1, ← h.tlen]
      simpa using hroom
    exact e
  have HC : Hid (∀ w', Below w.heap.size w w' → w'.cell? ⟨g, j * 5, none⟩ = some (.int .i64 t.1.fr) ∧ w'.cell? ⟨g, j * 5 + 1, none⟩ = some (.int .i64 t.1.to) ∧ w'.cell? ⟨g, j * 5 + 2, none⟩ = some (.int .i64 t.1.kind) ∧ w'.cell? ⟨g, j * 5 + 3, none⟩ = some (.slice aa na ca) ∧ w'.cell? ⟨g, j * 5 + 4, none⟩ = some (.slice ab nb cb) ∧ w'.cell? ⟨q, 2, none⟩ = some (.slice (some ⟨g, 0, none⟩) m cv)) := fun w' hb => by
    have k := fun i u hu => Below.kept hb (hcell (j * 5 + i) u (cs5_at ts j t i u ht hu))
    refine ⟨k 0 _ rfl, k 1 _ rfl, k 2 _ rfl, k 3 _ (by rw [← ea]; rfl), k 4 _ (by rw [← eb]; rfl), ?_⟩
    rw [hm]
    exact Below.kept hb ((h.cell 2).trans h.c2)
  have HC2 : Hid (∀ w', Below w.heap.size w w' → w'.cell? ⟨q, 2, none⟩ = some (.slice (some ⟨g, 0, none⟩) m cv)) := fun w' hb => (HC.out w' hb).2.2.2.2.2
  have l1 : w.cell? ⟨q, 1, none⟩ = some (.int .i64 (r : Int)) := by rw [hr]; exact (h.cell 1).trans h.c1
  have l2 : w.cell? ⟨q, 2, none⟩ = some (.slice (some ⟨g, 0, none⟩) m cv) := HC2.out w (Below.refl _ _)
  rw [← hm] at hjt hcv hroom
  rw [← hr] at hroom
  have hj0 : (0 : Int) ≤ (j : Int) := by omega
  have hjm : (j : Int) < (m : Int) := by omega
  have b1 : decide ((j : Int) < 0) = false := decide_eq_false (by omega)
  have b2 : decide ((m : Int) ≤ (j : Int)) = false := decide_eq_false (by omega)
  have b3 : decide ((r : Int) ≤ (m : Int)) = false := decide_eq_false (by omega)
  have b4 : decide (m ≤ j) = false := decide_eq_false (by omega)
  have b5 : decide (r ≤ m) = false := decide_eq_false (by omega)
  have h2 : ¬ (m : Int) ≤ (j : Int) := by omega
  have h3 : ¬ (r : Int) ≤ (m : Int) := by omega
  clear h ht hgg hcell ea eb hm hr hroom
  go_enter Try.func20, Try.ntmps20
  go_wp2
  go_quiet (fail)
  go_wp2_with fail
  clear l1 l2 b1 b2 b3 b4 b5 h2 h3
  refine wp_region_U (fun w' => w'.cell? ⟨g, j * 5, none⟩ = some (.int .i64 t.1.fr) ∧ w'.cell? ⟨g, j * 5 + 1, none⟩ = some (.int .i64 t.1.to) ∧ w'.cell? ⟨g, j * 5 + 2, none⟩ = some (.int .i64 t.1.kind) ∧ w'.cell? ⟨g, j * 5 + 3, none⟩ = some (.slice aa na ca) ∧ w'.cell? ⟨g, j * 5 + 4, none⟩ = some (.slice ab nb cb) ∧ w'.cell? ⟨q, 2, none⟩ = some (.slice (some ⟨g, 0, none⟩) m cv)) [18] (by kernel_rfl) ?_
  have HBX : Hid (Below w.heap.size w (w.drewN nq).drew) := (below_drewN (Below.refl _ _) _).drew
  generalize (w.drewN nq).drew = wX at *
  have HB0 : Hid (Below wX.heap.size wX wX) := Below.refl _ _
  refine' take_U (i := 0) (d := 28) (v := _) rfl rfl (by kernel_rfl) (by kernel_rfl) (by kernel_rfl) (by kernel_rfl) (by kernel_rfl) (by kernel_rfl) (fun _ _ _ h => h) (Or.inl ⟨by rfl, ?h0⟩) (HC.out _ HBX.out) ?_
  case h0 => intro w hSw; obtain ⟨s0, s1, s2, s3, s4, s5⟩ := hSw; go_simp; with_reducible rfl
  simp only [List.setIfInBounds_toArray, List.set_cons_zero, List.set_cons_succ]
  refine' take_U (i := 2) (d := 30) (v := _) rfl rfl (by kernel_rfl) (by kernel_rfl) (by kernel_rfl) (by kernel_rfl) (by kernel_rfl) (by kernel_rfl) (fun _ _ _ h => h) (Or.inl ⟨by rfl, ?h2⟩) (HC.out _ HBX.out) ?_
  case h2 => intro w hSw; obtain ⟨s0, s1, s2, s3, s4, s5⟩ := hSw; go_simp; with_reducible rfl
  simp only [List.setIfInBounds_toArray, List.set_cons_zero, List.set_cons_succ]
  refine' take_U (i := 3) (d := 31) (v := _) rfl rfl (by kernel_rfl) (by kernel_rfl) (by kernel_rfl) (by kernel_rfl) (by kernel_rfl) (by kernel_rfl) (fun _ _ _ h => h) (Or.inl ⟨by rfl, ?h3⟩) (HC.out _ HBX.out) ?_
  case h3 => intro w hSw; obtain ⟨s0, s1, s2, s3, s4, s5⟩ := hSw; go_simp; with_reducible rfl
  simp only [List.setIfInBounds_toArray, List.set_cons_zero, List.set_cons_succ]
  refine' take_U (i := 4) (d := 32) (v := _) rfl rfl (by kernel_rfl) (by kernel_rfl) (by kernel_rfl) (by kernel_rfl) (by kernel_rfl) (by kernel_rfl) (fun _ _ _ h => h) (Or.inl ⟨by rfl, ?h4⟩) (HC.out _ HBX.out) ?_
  case h4 => intro w hSw; obtain ⟨s0, s1, s2, s3, s4, s5⟩ := hSw; go_simp; with_reducible rfl
  simp only [List.setIfInBounds_toArray, List.set_cons_zero, List.set_cons_succ]
  refine' take_U (i := 5) (d := 33) (v := _) rfl rfl (by kernel_rfl) (by kernel_rfl) (by kernel_rfl) (by kernel_rfl) (by kernel_rfl) (by kernel_rfl) (fun _ _ _ h => h) (Or.inl ⟨by rfl, ?h5⟩) (HC.out _ HBX.out) ?_
  case h5 => intro w hSw; obtain ⟨s0, s1, s2, s3, s4, s5⟩ := hSw; go_simp; with_reducible rfl
  simp only [List.setIfInBounds_toArray, List.set_cons_zero, List.set_cons_succ]
  refine' take_U (i := 7) (d := 35) (v := _) rfl rfl (by kernel_rfl) (by kernel_rfl) (by kernel_rfl) (by kernel_rfl) (by kernel_rfl) (by kernel_rfl) (fun _ _ _ h => h) (Or.inl ⟨by rfl, ?h7⟩) (HC.out _ HBX.out) ?_
  case h7 => intro w hSw; obtain ⟨s0, s1, s2, s3, s4, s5⟩ := hSw; go_simp; with_reducible rfl
  simp only [List.setIfInBounds_toArray, List.set_cons_zero, List.set_cons_succ]
  refine' take_U (i := 8) (d := 36) (v := _) rfl rfl (by kernel_rfl) (by kernel_rfl) (by kernel_rfl) (by kernel_rfl) (by kernel_rfl) (by kernel_rfl) (fun _ _ _ h => h) (Or.inl ⟨by rfl, ?h8⟩) (HC.out _ HBX.out) ?_
  case h8 => intro w hSw; obtain ⟨s0, s1, s2, s3, s4, s5⟩ := hSw; go_simp; with_reducible rfl
  simp only [List.setIfInBounds_toArray, List.set_cons_zero, List.set_cons_succ]
  refine' take_U (i := 9) (d := 37) (v := _) rfl rfl (by kernel_rfl) (by kernel_rfl) (by kernel_rfl) (by kernel_rfl) (by kernel_rfl) (by kernel_rfl) (fun _ _ _ h => h) (Or.inl ⟨by rfl, ?h9⟩) (HC.out _ HBX.out) ?_
  case h9 => intro w hSw; obtain ⟨s0, s1, s2, s3, s4, s5⟩ := hSw; go_simp; with_reducible rfl
  simp only [List.setIfInBounds_toArray, List.set_cons_zero, List.set_cons_succ]
  refine' take_U (i := 10) (d := 38) (v := _) rfl rfl (by kernel_rfl) (by kernel_rfl) (by kernel_rfl) (by kernel_rfl) (by kernel_rfl) (by kernel_rfl) (fun _ _ _ h => h) (Or.inl ⟨by rfl, ?h10⟩) (HC.out _ HBX.out) ?_
  case h10 => intro w hSw; obtain ⟨s0, s1, s2, s3, s4, s5⟩ := hSw; go_simp; with_reducible rfl
  simp only [List.setIfInBounds_toArray, List.set_cons_zero, List.set_cons_succ]
  refine' take_U (i := 11) (d := 39) (v := _) rfl rfl (by kernel_rfl) (by kernel_rfl) (by kernel_rfl) (by kernel_rfl) (by kernel_rfl) (by kernel_rfl) (fun _ _ _ h => h) (Or.inl ⟨by rfl, ?h11⟩) (HC.out _ HBX.out) ?_
  case h11 => intro w hSw; obtain ⟨s0, s1, s2, s3, s4, s5⟩ := hSw; go_simp; with_reducible rfl
  simp only [List.setIfInBounds_toArray, List.set_cons_zero, List.set_cons_succ]
  refine' take_U (i := 12) (d := 40) (v := _) rfl rfl (by kernel_rfl) (by kernel_rfl) (by kernel_rfl) (by kernel_rfl) (by kernel_rfl) (by kernel_rfl) (fun _ _ _ h => h) (Or.inl ⟨by rfl, ?h12⟩) (HC.out _ HBX.out) ?_
  case h12 => intro w hSw; obtain ⟨s0, s1, s2, s3, s4, s5⟩ := hSw; go_simp; with_reducible rfl
  simp only [List.setIfInBounds_toArray, List.set_cons_zero, List.set_cons_succ]
  refine' take_U (i := 13) (d := 41) (v := _) rfl rfl (by kernel_rfl) (by kernel_rfl) (by kernel_rfl) (by kernel_rfl) (by kernel_rfl) (by kernel_rfl) (fun _ _ _ h => h) (Or.inl ⟨by rfl, ?h13⟩) (HC.out _ HBX.out) ?_
  case h13 => intro w hSw; obtain ⟨s0, s1, s2, s3, s4, s5⟩ := hSw; go_simp; with_reducible rfl
  simp only [List.setIfInBounds_toArray, List.set_cons_zero, List.set_cons_succ]
  refine wpAnyU_ready (rs := [1, 14]) (by kernel_rfl) (by simp) ?_
  refine AllReadyU.cons (o := _) rfl (fun K hK => ?_) (AllReadyU.cons (o := _) rfl (fun K hK => ?_) AllReadyU.nil)
  · go_simp
    obtain ⟨q0, hqq⟩ : ∃ z, z = wX.heap.size := ⟨_, rfl⟩
    rw [← hqq]
    have HB1 : Hid (Below wX.heap.size wX (wX.alloc (.cells #[] 47))) := HB0.out.alloc HB0.out.size _
    have HO1 : Hid ((wX.alloc (.cells #[] 47)).ownsRow wX.heap.size 47 5 (.slice (some ⟨q0, 0, none⟩) 0 0) 0 (cs5 [])) := by
      have e := (World.ownsRow_made wX (e := 47) (size := 5) #[] 0 (Nat.le_refl _) (by decide) rfl).mono HB0.out.size
      rw [hqq]
      exact e
    clear hqq
    generalize wX.alloc (.cells #[] 47) = wY1 at *
    refine hK.out _ _ (fun _ _ => (HC.out _ (HBX.out.trans (HB1.out.mono HBX.out.size)))) ?_
    clear hK K
    refine wpAnyU_ready (rs := [6, 14]) (by kernel_rfl) (by simp) ?_
    refine AllReadyU.cons (o := _) rfl (fun K hK => ?_) (AllReadyU.cons (o := _) rfl (fun K hK => ?_) AllReadyU.nil)
    · refine wp_msgs 47 38 Try.underlying38 (.agg #[.int .i64 0, .int .i64 0, .int .i64 0, .slice none 0 0, .slice none 0 0]) rfl infoMsg _ _ rfl wX.heap.size (.slice (some ⟨q0, 0, none⟩) 0 0) (.slice (some ⟨g, 0, none⟩) m cv) 0 [] ts wY1 rfl rfl HO1.out HB1.out.size (by have e := HH.out.src (HBX.out.trans (HB1.out.mono HBX.out.size)); rw [← HM.out.1] at e; exact e) HH.out.ok (by rw [← HM.out.1]; have h2 := HM.out.2; omega) ?_
      intro v34 wY2 ho hg hat
      have HB2 : Hid (Below wX.heap.size wX wY2) := HB1.out.grown hg HB1.out.size (fun z hz => (HO1.out.lt z hz).1)
      rw [List.nil_append, Nat.zero_add] at ho
      obtain ⟨n34, hn34⟩ : ∃ z, z = ts.length := ⟨_, rfl⟩
      have HN34 : Hid (n34 = ts.length) := hn34
      rw [← hn34] at ho
      obtain ⟨a34, c34, hv34, _⟩ := row_shape9 ho
      subst hv34
      have HP2 : Hid (wY2.ownsRow wX.heap.size 47 5 (.slice a34 n34 c34) n34 (cs5 ts)) := ho
      clear ho hg hat hn34
      go_simp
      refine hK.out _ _ (fun _ _ => (HC.out _ (HBX.out.trans (HB2.out.mono HBX.out.size)))) ?_
      clear hK K
      refine wpAnyU_ready (rs := [14]) (by kernel_rfl) (by simp) ?_
      refine AllReadyU.cons (o := _) rfl (fun K hK => ?_) AllReadyU.nil
      go_simp
      obtain ⟨q1, hqq⟩ : ∃ z, z = wY2.heap.size := ⟨_, rfl⟩
      rw [← hqq]
      have HB3 : Hid (Below wX.heap.size wX (wY2.alloc (.cells #[.int .i64 t.1.fr, .int .i64 t.1.to, .int .i64 t.1.kind, .slice aa na ca, .slice ab nb cb] 47))) := HB2.out.alloc HB2.out.size _
      have HQ3 : Hid (∀ i u, ([.int .i64 t.1.fr, .int .i64 t.1.to, .int .i64 t.1.kind, .slice aa na ca, .slice ab nb cb] : List Value)[i]? = some u → (wY2.alloc (.cells #[.int .i64 t.1.fr, .int .i64 t.1.to, .int .i64 t.1.kind, .slice aa na ca, .slice ab nb cb] 47)).cell? ⟨q1, i, none⟩ = some u) := fun i u hu => by
        rw [hqq]
        exact cell?_alloc_at _ _ _ _ _ _ (by simpa using hu)
      have HP3 : Hid ((wY2.alloc (.cells #[.int .i64 t.1.fr, .int .i64 t.1.to, .int .i64 t.1.kind, .slice aa na ca, .slice ab nb cb] 47)).ownsRow wX.heap.size 47 5 (.slice a34 n34 c34) n34 (cs5 ts)) := HP2.out.alloc _
      clear hqq
      generalize wY2.alloc (.cells #[.int .i64 t.1.fr, .int .i64 t.1.to, .int .i64 t.1.kind, .slice aa na ca, .slice ab nb cb] 47) = wY3 at *
      refine hK.out _ _ (fun _ _ => (HC.out _ (HBX.out.trans (HB3.out.mono HBX.out.size)))) ?_
      clear hK K
      refine wpAnyU_ready (rs := [15]) (by kernel_rfl) (by simp) ?_
      refine AllReadyU.cons (o := _) rfl (fun K hK => ?_) AllReadyU.nil
      refine wp_msgs 47 38 Try.underlying38 (.agg #[.int .i64 0, .int .i64 0, .int .i64 0, .slice none 0 0, .slice none 0 0]) rfl infoMsg _ _ rfl wX.heap.size (.slice a34 n34 c34) (.slice (some ⟨q1, 0, none⟩) 1 1) n34 ts [t] wY3 rfl rfl HP3.out HB3.out.size (one_src HE.out.1 HE.out.2 HQ3.out) OK1.out (by have h1 := HN34.out; have h2 := HM.out; simp only [List.length_singleton]; omega) ?_
      intro v42 wY4 ho hg hat
      have HB4 : Hid (Below wX.heap.size wX wY4) := HB3.out.grown hg HB3.out.size (fun z hz => (HP3.out.lt z hz).1)
      have HO4 : Hid (wY4.ownsRow wX.heap.size 47 5 v42 (ts ++ [t]).length (cs5 (ts ++ [t]))) := by
        have e := ho
        rw [HN34.out] at e
        rw [List.length_append]
        exact e
      obtain ⟨a42, c42, hv42, _⟩ := row_shape9 ho
      obtain ⟨n42, hn42⟩ : ∃ z, z = n34 + [t].length := ⟨_, rfl⟩
      rw [← hn42] at hv42
      subst hv42
      clear ho hg hat hn42
      have HQ9 : Hid (wY4.cell? ⟨q, 2, none⟩ = some (.slice (some ⟨g, 0, none⟩) m cv) ∧ wY4.frozen? ⟨q, 2, none⟩ = false) := ⟨HC2.out _ (HBX.out.trans (HB4.out.mono HBX.out.size)), (HH.out.below (HBX.out.trans (HB4.out.mono HBX.out.size))).free 2⟩
      go_simp
      refine hK.out _ _ (fun _ _ => (HC.out _ (HBX.out.trans (HB4.out.mono HBX.out.size)))) ?_
      clear hK K
      refine' take_U (i := 16) (d := 44) (v := _) rfl rfl (by kernel_rfl) (by kernel_rfl) (by kernel_rfl) (by kernel_rfl) (by kernel_rfl) (by kernel_rfl) (fun _ _ _ h => h) (Or.inl ⟨by rfl, ?h16⟩) ((HC.out _ (HBX.out.trans (HB4.out.mono HBX.out.size)))) ?_
      case h16 => intro w hSw; go_simp; with_reducible rfl
      simp only [List.setIfInBounds_toArray, List.set_cons_zero, List.set_cons_succ]
      refine' take_U (i := 17) (d := 45) (v := _) rfl rfl (by kernel_rfl) (by kernel_rfl) (by kernel_rfl) (by kernel_rfl) (by kernel_rfl) (by kernel_rfl) (fun _ _ _ h => h) (Or.inl ⟨by rfl, ?h17⟩) ((HC.out _ (HBX.out.trans (HB4.out.mono HBX.out.size)))) ?_
      case h17 => intro w hSw; go_simp; with_reducible rfl
      simp only [List.setIfInBounds_toArray, List.set_cons_zero, List.set_cons_succ]
      refine wpAnyU_ready (rs := [18]) (by kernel_rfl) (by simp) ?_
      refine AllReadyU.cons (o := _) rfl (fun K hK => ?_) AllReadyU.nil
      have hc := HQ9.out.1
      have hz := HQ9.out.2
      go_simp
      clear hc hz
      refine hK.out _ _ (fun h => absurd (by decide) h) ?_
      clear hK K
      refine wpAnyU_done (by kernel_rfl) ?_ _
      have hnr := (HH.out.below HBX.out).newRow (ts' := ts ++ [t]) (n' := Nq.copy n (j : Int)) HB4.out HO4.out (fun x hx => ((HH.out.below HBX.out).parts x (mem_more hx (List.mem_of_getElem? HT.out))).in_new HB4.out (fun k hk => Nat.lt_of_lt_of_le (HH.out.glt k hk) HBX.out.size)) (copy_same n _) (copy_ms HH.out HT.out HRM.out) (fine_copy HH.out.fine _)
      go_wp2
      go_ret
      exact ⟨_, _, _, _, rfl, hnr.1, (Moved.of_below _ HBX.out).trans hnr.2⟩
    · go_simp
      obtain ⟨q1, hqq⟩ : ∃ z, z = wY1.heap.size := ⟨_, rfl⟩
      rw [← hqq]
      have HB2 : Hid (Below wX.heap.size wX (wY1.alloc (.cells #[.int .i64 t.1.fr, .int .i64 t.1.to, .int .i64 t.1.kind, .slice aa na ca, .slice ab nb cb] 47))) := HB1.out.alloc HB1.out.size _
      have HQ2 : Hid (∀ i u, ([.int .i64 t.1.fr, .int .i64 t.1.to, .int .i64 t.1.kind, .slice aa na ca, .slice ab nb cb] : List Value)[i]? = some u → (wY1.alloc (.cells #[.int .i64 t.1.fr, .int .i64 t.1.to, .int .i64 t.1.kind, .slice aa na ca, .slice ab nb cb] 47)).cell? ⟨q1, i, none⟩ = some u) := fun i u hu => by
        rw [hqq]
        exact cell?_alloc_at _ _ _ _ _ _ (by simpa using hu)
      have HO2 : Hid ((wY1.alloc (.cells #[.int .i64 t.1.fr, .int .i64 t.1.to, .int .i64 t.1.kind, .slice aa na ca, .slice ab nb cb] 47)).ownsRow wX.heap.size 47 5 (.slice (some ⟨q0, 0, none⟩) 0 0) 0 (cs5 [])) := HO1.out.alloc _
      have HNE : Hid (q1 ≠ q0) := by
        have e := (HO1.out.lt q0 rfl).2
        have e2 : q1 ≠ q0 := by rw [hqq]; omega
        exact e2
      clear hqq
      generalize wY1.alloc (.cells #[.int .i64 t.1.fr, .int .i64 t.1.to, .int .i64 t.1.kind, .slice aa na ca, .slice ab nb cb] 47) = wY2 at *
      refine hK.out _ _ (fun _ _ => (HC.out _ (HBX.out.trans (HB2.out.mono HBX.out.size)))) ?_
      clear hK K
      refine wpAnyU_ready (rs := [6]) (by kernel_rfl) (by simp) ?_
      refine AllReadyU.cons (o := _) rfl (fun K hK => ?_) AllReadyU.nil
      refine wp_msgs 47 38 Try.underlying38 (.agg #[.int .i64 0, .int .i64 0, .int .i64 0, .slice none 0 0, .slice none 0 0]) rfl infoMsg _ _ rfl wX.heap.size (.slice (some ⟨q0, 0, none⟩) 0 0) (.slice (some ⟨g, 0, none⟩) m cv) 0 [] ts wY2 rfl rfl HO2.out HB2.out.size (by have e := HH.out.src (HBX.out.trans (HB2.out.mono HBX.out.size)); rw [← HM.out.1] at e; exact e) HH.out.ok (by rw [← HM.out.1]; have h2 := HM.out.2; omega) ?_
      intro v34 wY3 ho hg hat
      have HB3 : Hid (Below wX.heap.size wX wY3) := HB2.out.grown hg HB2.out.size (fun z hz => (HO2.out.lt z hz).1)
      have HQ3 : Hid (∀ i u, ([.int .i64 t.1.fr, .int .i64 t.1.to, .int .i64 t.1.kind, .slice aa na ca, .slice ab nb cb] : List Value)[i]? = some u → wY3.cell? ⟨q1, i, none⟩ = some u) := fun i u hu => hg.cell (HQ2.out i u hu) (fun e => HNE.out (by simpa [Value.ownBlock] using e))
      rw [List.nil_append, Nat.zero_add] at ho
      obtain ⟨n34, hn34⟩ : ∃ z, z = ts.length := ⟨_, rfl⟩
      have HN34 : Hid (n34 = ts.length) := hn34
      rw [← hn34] at ho
      obtain ⟨a34, c34, hv34, _⟩ := row_shape9 ho
      subst hv34
      have HP3 : Hid (wY3.ownsRow wX.heap.size 47 5 (.slice a34 n34 c34) n34 (cs5 ts)) := ho
      clear ho hg hat hn34
      go_simp
      refine hK.out _ _ (fun _ _ => (HC.out _ (HBX.out.trans (HB3.out.mono HBX.out.size)))) ?_
      clear hK K
      refine wpAnyU_ready (rs := [15]) (by kernel_rfl) (by simp) ?_
      refine AllReadyU.cons (o := _) rfl (fun K hK => ?_) AllReadyU.nil
      refine wp_msgs 47 38 Try.underlying38 (.agg #[.int .i64 0, .int .i64 0, .int .i64 0, .slice none 0 0, .slice none 0 0]) rfl infoMsg _ _ rfl wX.heap.size (.slice a34 n34 c34) (.slice (some ⟨q1, 0, none⟩) 1 1) n34 ts [t] wY3 rfl rfl HP3.out HB3.out.size (one_src HE.out.1 HE.out.2 HQ3.out) OK1.out (by have h1 := HN34.out; have h2 := HM.out; simp only [List.length_singleton]; omega) ?_
      intro v42 wY4 ho hg hat
      have HB4 : Hid (Below wX.heap.size wX wY4) := HB3.out.grown hg HB3.out.size (fun z hz => (HP3.out.lt z hz).1)
      have HO4 : Hid (wY4.ownsRow wX.heap.size 47 5 v42 (ts ++ [t]).length (cs5 (ts ++ [t]))) := by
        have e := ho
        rw [HN34.out] at e
        rw [List.length_append]
        exact e
      obtain ⟨a42, c42, hv42, _⟩ := row_shape9 ho
      obtain ⟨n42, hn42⟩ : ∃ z, z = n34 + [t].length := ⟨_, rfl⟩
      rw [← hn42] at hv42
      subst hv42
      clear ho hg hat hn42
      have HQ9 : Hid (wY4.cell? ⟨q, 2, none⟩ = some (.slice (some ⟨g, 0, none⟩) m cv) ∧ wY4.frozen? ⟨q, 2, none⟩ = false) := ⟨HC2.out _ (HBX.out.trans (HB4.out.mono HBX.out.size)), (HH.out.below (HBX.out.trans (HB4.out.mono HBX.out.size))).free 2⟩
      go_simp
      refine hK.out _ _ (fun _ _ => (HC.out _ (HBX.out.trans (HB4.out.mono HBX.out.size)))) ?_
      clear hK K
      refine' take_U (i := 16) (d := 44) (v := _) rfl rfl (by kernel_rfl) (by kernel_rfl) (by kernel_rfl) (by kernel_rfl) (by kernel_rfl) (by kernel_rfl) (fun _ _ _ h => h) (Or.inl ⟨by rfl, ?h16⟩) ((HC.out _ (HBX.out.trans (HB4.out.mono HBX.out.size)))) ?_
      case h16 => intro w hSw; go_simp; with_reducible rfl
      simp only [List.setIfInBounds_toArray, List.set_cons_zero, List.set_cons_succ]
      refine' take_U (i := 17) (d := 45) (v := _) rfl rfl (by kernel_rfl) (by kernel_rfl) (by kernel_rfl) (by kernel_rfl) (by kernel_rfl) (by kernel_rfl) (fun _ _ _ h => h) (Or.inl ⟨by rfl, ?h17⟩) ((HC.out _ (HBX.out.trans (HB4.out.mono HBX.out.size)))) ?_
      case h17 => intro w hSw; go_simp; with_reducible rfl
      simp only [List.setIfInBounds_toArray, List.set_cons_zero, List.set_cons_succ]
      refine wpAnyU_ready (rs := [18]) (by kernel_rfl) (by simp) ?_
      refine AllReadyU.cons (o := _) rfl (fun K hK => ?_) AllReadyU.nil
      have hc := HQ9.out.1
      have hz := HQ9.out.2
      go_simp
      clear hc hz
      refine hK.out _ _ (fun h => absurd (by decide) h) ?_
      clear hK K
      refine wpAnyU_done (by kernel_rfl) ?_ _
      have hnr := (HH.out.below HBX.out).newRow (ts' := ts ++ [t]) (n' := Nq.copy n (j : Int)) HB4.out HO4.out (fun x hx => ((HH.out.below HBX.out).parts x (mem_more hx (List.mem_of_getElem? HT.out))).in_new HB4.out (fun k hk => Nat.lt_of_lt_of_le (HH.out.glt k hk) HBX.out.size)) (copy_same n _) (copy_ms HH.out HT.out HRM.out) (fine_copy HH.out.fine _)
      go_wp2
      go_ret
      exact ⟨_, _, _, _, rfl, hnr.1, (Moved.of_below _ HBX.out).trans hnr.2⟩
  · go_simp
    obtain ⟨q1, hqq⟩ : ∃ z, z = wX.heap.size := ⟨_, rfl⟩
    rw [← hqq]
    have HB1 : Hid (Below wX.heap.size wX (wX.alloc (.cells #[.int .i64 t.1.fr, .int .i64 t.1.to, .int .i64 t.1.kind, .slice aa na ca, .slice ab nb cb] 47))) := HB0.out.alloc HB0.out.size _
    have HQ1 : Hid (∀ i u, ([.int .i64 t.1.fr, .int .i64 t.1.to, .int .i64 t.1.kind, .slice aa na ca, .slice ab nb cb] : List Value)[i]? = some u → (wX.alloc (.cells #[.int .i64 t.1.fr, .int .i64 t.1.to, .int .i64 t.1.kind, .slice aa na ca, .slice ab nb cb] 47)).cell? ⟨q1, i, none⟩ = some u) := fun i u hu => by
      rw [hqq]
      exact cell?_alloc_at _ _ _ _ _ _ (by simpa using hu)
    clear hqq
    generalize wX.alloc (.cells #[.int .i64 t.1.fr, .int .i64 t.1.to, .int .i64 t.1.kind, .slice aa na ca, .slice ab nb cb] 47) = wY1 at *
    refine hK.out _ _ (fun _ _ => (HC.out _ (HBX.out.trans (HB1.out.mono HBX.out.size)))) ?_
    clear hK K
    refine wpAnyU_ready (rs := [1]) (by kernel_rfl) (by simp) ?_
    refine AllReadyU.cons (o := _) rfl (fun K hK => ?_) AllReadyU.nil
    go_simp
    obtain ⟨q0, hqq⟩ : ∃ z, z = wY1.heap.size := ⟨_, rfl⟩
    rw [← hqq]
    have HB2 : Hid (Below wX.heap.size wX (wY1.alloc (.cells #[] 47))) := HB1.out.alloc HB1.out.size _
    have HO2 : Hid ((wY1.alloc (.cells #[] 47)).ownsRow wX.heap.size 47 5 (.slice (some ⟨q0, 0, none⟩) 0 0) 0 (cs5 [])) := by
      have e := (World.ownsRow_made wY1 (e := 47) (size := 5) #[] 0 (Nat.le_refl _) (by decide) rfl).mono HB1.out.size
      rw [hqq]
      exact e
    have HQ2 : Hid (∀ i u, ([.int .i64 t.1.fr, .int .i64 t.1.to, .int .i64 t.1.kind, .slice aa na ca, .slice ab nb cb] : List Value)[i]? = some u → (wY1.alloc (.cells #[] 47)).cell? ⟨q1, i, none⟩ = some u) := fun i u hu => Below.kept ((Below.refl _ _).alloc (Nat.le_refl _) _) (HQ1.out i u hu)
    have HNE : Hid (q1 ≠ q0) := by
      have e := World.block_lt_of_cell? _ _ (HQ1.out 0 _ rfl)
      have e2 : q1 ≠ q0 := by rw [hqq]; exact Nat.ne_of_lt e
      exact e2
    clear hqq
    generalize wY1.alloc (.cells #[] 47) = wY2 at *
    refine hK.out _ _ (fun _ _ => (HC.out _ (HBX.out.trans (HB2.out.mono HBX.out.size)))) ?_
    clear hK K
    refine wpAnyU_ready (rs := [6]) (by kernel_rfl) (by simp) ?_
    refine AllReadyU.cons (o := _) rfl (fun K hK => ?_) AllReadyU.nil
    refine wp_msgs 47 38 Try.underlying38 (.agg #[.int .i64 0, .int .i64 0, .int .i64 0, .slice none 0 0, .slice none 0 0]) rfl infoMsg _ _ rfl wX.heap.size (.slice (some ⟨q0, 0, none⟩) 0 0) (.slice (some ⟨g, 0, none⟩) m cv) 0 [] ts wY2 rfl rfl HO2.out HB2.out.size (by have e := HH.out.src (HBX.out.trans (HB2.out.mono HBX.out.size)); rw [← HM.out.1] at e; exact e) HH.out.ok (by rw [← HM.out.1]; have h2 := HM.out.2; omega) ?_
    intro v34 wY3 ho hg hat
    have HB3 : Hid (Below wX.heap.size wX wY3) := HB2.out.grown hg HB2.out.size (fun z hz => (HO2.out.lt z hz).1)
    have HQ3 : Hid (∀ i u, ([.int .i64 t.1.fr, .int .i64 t.1.to, .int .i64 t.1.kind, .slice aa na ca, .slice ab nb cb] : List Value)[i]? = some u → wY3.cell? ⟨q1, i, none⟩ = some u) := fun i u hu => hg.cell (HQ2.out i u hu) (fun e => HNE.out (by simpa [Value.ownBlock] using e))
    rw [List.nil_append, Nat.zero_add] at ho
    obtain ⟨n34, hn34⟩ : ∃ z, z = ts.length := ⟨_, rfl⟩
    have HN34 : Hid (n34 = ts.length) := hn34
    rw [← hn34] at ho
    obtain ⟨a34, c34, hv34, _⟩ := row_shape9 ho
    subst hv34
    have HP3 : Hid (wY3.ownsRow wX.heap.size 47 5 (.slice a34 n34 c34) n34 (cs5 ts)) := ho
    clear ho hg hat hn34
    go_simp
    refine hK.out _ _ (fun _ _ => (HC.out _ (HBX.out.trans (HB3.out.mono HBX.out.size)))) ?_
    clear hK K
    refine wpAnyU_ready (rs := [15]) (by kernel_rfl) (by simp) ?_
    refine AllReadyU.cons (o := _) rfl (fun K hK => ?_) AllReadyU.nil
    refine wp_msgs 47 38 Try.underlying38 (.agg #[.int .i64 0, .int .i64 0, .int .i64 0, .slice none 0 0, .slice none 0 0]) rfl infoMsg _ _ rfl wX.heap.size (.slice a34 n34 c34) (.slice (some ⟨q1, 0, none⟩) 1 1) n34 ts [t] wY3 rfl rfl HP3.out HB3.out.size (one_src HE.out.1 HE.out.2 HQ3.out) OK1.out (by have h1 := HN34.out; have h2 := HM.out; simp only [List.length_singleton]; omega) ?_
    intro v42 wY4 ho hg hat
    have HB4 : Hid (Below wX.heap.size wX wY4) := HB3.out.grown hg HB3.out.size (fun z hz => (HP3.out.lt z hz).1)
    have HO4 : Hid (wY4.ownsRow wX.heap.size 47 5 v42 (ts ++ [t]).length (cs5 (ts ++ [t]))) := by
      have e := ho
      rw [HN34.out] at e
      rw [List.length_append]
      exact e
    obtain ⟨a42, c42, hv42, _⟩ := row_shape9 ho
    obtain ⟨n42, hn42⟩ : ∃ z, z = n34 + [t].length := ⟨_, rfl⟩
    rw [← hn42] at hv42
    subst hv42
    clear ho hg hat hn42
    have HQ9 : Hid (wY4.cell? ⟨q, 2, none⟩ = some (.slice (some ⟨g, 0, none⟩) m cv) ∧ wY4.frozen? ⟨q, 2, none⟩ = false) := ⟨HC2.out _ (HBX.out.trans (HB4.out.mono HBX.out.size)), (HH.out.below (HBX.out.trans (HB4.out.mono HBX.out.size))).free 2⟩
    go_simp
    refine hK.out _ _ (fun _ _ => (HC.out _ (HBX.out.trans (HB4.out.mono HBX.out.size)))) ?_
    clear hK K
    refine' take_U (i := 16) (d := 44) (v := _) rfl rfl (by kernel_rfl) (by kernel_rfl) (by kernel_rfl) (by kernel_rfl) (by kernel_rfl) (by kernel_rfl) (fun _ _ _ h => h) (Or.inl ⟨by rfl, ?h16⟩) ((HC.out _ (HBX.out.trans (HB4.out.mono HBX.out.size)))) ?_
    case h16 => intro w hSw; go_simp; with_reducible rfl
    simp only [List.setIfInBounds_toArray, List.set_cons_zero, List.set_cons_succ]
    refine' take_U (i := 17) (d := 45) (v := _) rfl rfl (by kernel_rfl) (by kernel_rfl) (by kernel_rfl) (by kernel_rfl) (by kernel_rfl) (by kernel_rfl) (fun _ _ _ h => h) (Or.inl ⟨by rfl, ?h17⟩) ((HC.out _ (HBX.out.trans (HB4.out.mono HBX.out.size)))) ?_
    case h17 => intro w hSw; go_simp; with_reducible rfl
    simp only [List.setIfInBounds_toArray, List.set_cons_zero, List.set_cons_succ]
    refine wpAnyU_ready (rs := [18]) (by kernel_rfl) (by simp) ?_
    refine AllReadyU.cons (o := _) rfl (fun K hK => ?_) AllReadyU.nil
    have hc := HQ9.out.1
    have hz := HQ9.out.2
    go_simp
    clear hc hz
    refine hK.out _ _ (fun h => absurd (by decide) h) ?_
    clear hK K
    refine wpAnyU_done (by kernel_rfl) ?_ _
    have hnr := (HH.out.below HBX.out).newRow (ts' := ts ++ [t]) (n' := Nq.copy n (j : Int)) HB4.out HO4.out (fun x hx => ((HH.out.below HBX.out).parts x (mem_more hx (List.mem_of_getElem? HT.out))).in_new HB4.out (fun k hk => Nat.lt_of_lt_of_le (HH.out.glt k hk) HBX.out.size)) (copy_same n _) (copy_ms HH.out HT.out HRM.out) (fine_copy HH.out.fine _)
    go_wp2
    go_ret
    exact ⟨_, _, _, _, rfl, hnr.1, (Moved.of_below _ HBX.out).trans hnr.2⟩

theorem refCopy_any (q : Nat) (n : Nq.Nt) (G : Nat → Prop) (v : Value) (ts : List Mt) (C : List Value) (k : Int) (w : World) (h : Rf9 w q n G v ts C) :
    Calls Try.prog 20 #[dptr q, .int .i64 k] w fun e w' => ∃ G' v' ts' C', e = .returned (.bool (Nq.mayCopy n k)) ∧ Rf9 w' q (Nq.copy n k) G' v' ts' C' ∧ Moved w w' (Gq q G) (Gq q G') := by
  by_cases hk : k < 0 ∨ (ts.length : Int) ≤ k ∨ n.room ≤ ts.length
  · have hh : Nq.mayCopy n k = false := by
      unfold Nq.mayCopy Nq.has
      rw [← h.tlen]
      rcases hk with e | e | e
      · rw [decide_eq_false (by omega), Bool.false_and, Bool.false_and]
      · rw [decide_eq_false (p := k < (ts.length : Int)) (by omega), Bool.and_false, Bool.false_and]
      · rw [decide_eq_false (p := ts.length < n.room) (by omega), Bool.and_false]
    refine (refCopy_no q n G v ts C k w h hk).mono ?_
    rintro e w' ⟨rfl, hb⟩
    rw [hh, Nq.copy_not hh]
    exact ⟨G, v, ts, C, rfl, h.below hb, Moved.of_below _ hb⟩
  · obtain ⟨j, hj⟩ : ∃ j : Nat, k = (j : Int) := ⟨k.toNat, by omega⟩
    subst hj
    have ht : ts[j]? = some (ts[j]'(by omega)) := List.getElem?_eq_getElem _
    have hm : Nq.mayCopy n (j : Int) = true := by
      unfold Nq.mayCopy
      rw [(h.msg ht).1, ← h.tlen]
      simp
      omega
    refine (refCopy_yes q n G v ts C j _ w h ht (by omega)).mono ?_
    rintro e w' ⟨G', v', ts', C', rfl, h4, h5⟩
    rw [hm]
    exact ⟨G', v', ts', C', rfl, h4, h5⟩
end Go.Proofs.Ytkldecdjokfajaa
