/- What the reference's network answers to Take and Copy. -/
import Derived.Test.YtkldecdjokfajaaRefN9
import Derived.Laws.ResultCell
import Derived.Deep.DeepCutAuto
namespace Go.Proofs.Ytkldecdjokfajaa
open Go.RowKit

theorem infoMsg : (Try.prog.info? 47).map (fun i => (i.zero, i.size, i.bytes)) = some (some (.agg #[.int .i64 0, .int .i64 0, .int .i64 0, .slice none 0 0, .slice none 0 0]), 5, 72) := by kernel_rfl

section
variable {w w4 : World} {q : Nat} {n n' : Nq.Nt} {G : Nat → Prop} {v v' : Value} {ts ts' : List Mt} {C : List Value}
/-- The blocks that there are behind a call. -/
def Gn (w w' : World) (G : Nat → Prop) : Nat → Prop := fun k => G k ∨ (w.heap.size ≤ k ∧ k < w'.heap.size)
/-- Its row is another, just made. -/
theorem Rf9.newRow (h : Rf9 w q n G v ts C) (hb : Below w.heap.size w w4) (ho : w4.ownsRow w.heap.size 47 5 v' ts'.length (cs5 ts')) (hp : ∀ t ∈ ts', Mp w4 t.1 t.2.1 t.2.2 (Gn w w4 G)) (hn : n'.nodes = n.nodes ∧ n'.room = n.room ∧ n'.cut = n.cut) (hl : ts'.map (·.1) = n'.l) (hf : FineN n') :
    Rf9 (w4.setCell ⟨q, 2, none⟩ v') q n' (Gn w w4 G) v' ts' (C.set 2 v') ∧ Moved w (w4.setCell ⟨q, 2, none⟩ v') (Gq q G) (Gq q (Gn w w4 G)) := by
  have hset := grownBy_setCell w4 ⟨q, 2, none⟩ v'
  have hne : ∀ k, k ≠ q → (w4.setCell ⟨q, 2, none⟩ v').heap[k]? = w4.heap[k]? := fun k hk => RowKit.Below.heap_setCell _ _ _ _ hk
  have hlen := h.len
  have hq := h.qlt
  have hgq : ¬ Gn w w4 G q := fun e => by
    rcases e with e | e
    · exact h.gq e
    · omega
  have h4 := h.below hb
  refine ⟨⟨?_, by rw [List.length_set]; exact hlen, by rw [List.getElem?_set_ne (by omega), hn.1]; exact h.c0, by rw [List.getElem?_set_ne (by omega), hn.2.1]; exact h.c1, by rw [List.getElem?_set_self (by omega)], fun a b ha hb2 => by rw [List.getElem?_set_ne (by omega), hn.2.2]; exact h.ways a b ha hb2, hl, ?_, fun t ht => (hp t ht).keep (fun k hk => hne k (fun e => hgq (e ▸ hk))), hgq, fun k hk => ?_, hf⟩, ⟨hset.os.trans hb.os, hset.tape.trans hb.tape, hset.output.trans hb.output, Nat.le_trans hb.size hset.size, fun k hk hG => ?_, fun k hk => ?_⟩⟩
  · have hb2 := h4.blk
    simp [World.setCell, Array.getElem?_modify, hb2]
  · rcases ho.2 with ⟨e, h0⟩ | ⟨g, cap, cur, e, hg, hblk, hcap, _, hsz, htk⟩
    · exact Or.inl ⟨e, List.length_eq_zero_iff.1 h0⟩
    · have hglt : g < w4.heap.size := (Array.getElem?_eq_some_iff.1 hblk).1
      refine Or.inr ⟨g, cap, e, Or.inr ⟨hg, hglt⟩, hcap, fun j x hx => ?_⟩
      refine (cell_same (hne g (fun e2 => by rw [e2] at hg; omega))).trans ?_
      have hj := (List.getElem?_eq_some_iff.1 hx).1
      rw [cs5_len] at hj
      rw [← htk, List.getElem?_take, if_pos hj, Array.getElem?_toList] at hx
      simp [World.cell?, hblk, hx]
  · refine Nat.lt_of_lt_of_le ?_ hset.size
    rcases hk with hk | hk
    · exact Nat.lt_of_lt_of_le (h.glt k hk) hb.size
    · exact hk.2
  · rw [hne k (fun e => hG (Or.inl e))]
    exact hb.block k hk
  · rcases hk with rfl | hk | hk
    · exact Or.inl (Or.inl rfl)
    · exact Or.inl (Or.inr hk)
    · exact Or.inr hk.1
theorem Mp.in_new {m : Nq.Ms} {a b : Value} (h : Mp w m a b G) (hb : Below w.heap.size w w4) (hG : ∀ k, G k → k < w.heap.size) : Mp w4 m a b (Gn w w4 G) := (h.keep (fun k hk => hb.block k (hG k hk))).mono (fun _ hk => Or.inl hk)
theorem Rf9.msg (h : Rf9 w q n G v ts C) {j : Nat} {t : Mt} (ht : ts[j]? = some t) : Nq.has n (j : Int) = true ∧ Nq.at_ n (j : Int) = t.1 := by
  refine Nq.at_has ?_
  rw [← h.ms, List.getElem?_map, ht]
  rfl
end

theorem lose_same (n : Nq.Nt) (k : Int) : (Nq.lose n k).nodes = n.nodes ∧ (Nq.lose n k).room = n.room ∧ (Nq.lose n k).cut = n.cut := by
  unfold Nq.lose
  split <;> exact ⟨rfl, rfl, rfl⟩
theorem take_ms {w : World} {q j : Nat} {n : Nq.Nt} {G : Nat → Prop} {v : Value} {ts : List Mt} {C : List Value} {t : Mt} (h : Rf9 w q n G v ts C) (ht : ts[j]? = some t) : (ts.take j ++ ts.drop (j + 1)).map (·.1) = (Nq.lose n (j : Int)).l := by
  unfold Nq.lose
  rw [if_pos (h.msg ht).1, Int.toNat_natCast]
  show _ = n.l.eraseIdx j
  rw [List.eraseIdx_eq_take_drop_succ, List.map_append, List.map_take, List.map_drop, h.ms]
theorem add_flat (g o i : Nat) : (⟨g, o, none⟩ : Addr).add i = ⟨g, o + i, none⟩ := by
  simp only [Addr.add]
  split <;> simp_all

set_option maxRecDepth 20000 in
set_option maxHeartbeats 2000000 in
theorem refTake_no (q : Nat) (n : Nq.Nt) (G : Nat → Prop) (v : Value) (ts : List Mt) (C : List Value) (k : Int) (w : World) (h : Rf9 w q n G v ts C) (hk : k < 0 ∨ (ts.length : Int) ≤ k) :
    Calls Try.prog 18 #[dptr q, .int .i64 k] w fun e w' => e = .returned (.tuple #[mv Nq.Ms.zero (.slice none 0 0) (.slice none 0 0), .bool false]) ∧ Below w.heap.size w w' := by
  have l2 : w.cell? ⟨q, 2, none⟩ = some v := (h.cell 2).trans h.c2
  obtain ⟨av, cv, rfl, _⟩ := h.slice
  obtain ⟨m, hm⟩ : ∃ m, m = ts.length := ⟨_, rfl⟩
  rw [← hm] at l2 hk
  have HQ : Hid (q ≠ w.heap.size) := by
    have e := h.qlt
    have e2 : q ≠ w.heap.size := by omega
    exact e2
  have l2b : (w.alloc (.cells #[.int .i64 0, .int .i64 0, .int .i64 0, .slice none 0 0, .slice none 0 0] 47)).cell? ⟨q, 2, none⟩ = some (.slice av m cv) := Below.kept ((Below.refl _ w).alloc (Nat.le_refl _) _) l2
  clear h hm l2
  by_cases h1 : k < 0
  · have b1 : decide (k < 0) = true := decide_eq_true h1
    clear hk
    go_enter Try.func18, Try.ntmps18
    go_wp2
    refine bodyPost_ret (v := .tuple #[.agg #[.int .i64 0, .int .i64 0, .int .i64 0, .slice none 0 0, .slice none 0 0], .bool false]) ?_ rfl ⟨rfl, (Below.refl _ w).alloc (Nat.le_refl _) _⟩
    rw [results_cell_tmp rfl]
    go_simp
  · have b1 : decide (k < 0) = false := decide_eq_false h1
    have h2 : (m : Int) ≤ k := by omega
    clear hk
    go_enter Try.func18, Try.ntmps18
    go_wp2
    refine bodyPost_ret (v := .tuple #[.agg #[.int .i64 0, .int .i64 0, .int .i64 0, .slice none 0 0, .slice none 0 0], .bool false]) ?_ rfl ⟨rfl, (Below.refl _ w).alloc (Nat.le_refl _) _⟩
    rw [results_cell_tmp rfl]
    go_simp

set_option maxRecDepth 20000 in
set_option maxHeartbeats 8000000 in
theorem refTake_yes (q : Nat) (n : Nq.Nt) (G : Nat → Prop) (v : Value) (ts : List Mt) (C : List Value) (j : Nat) (t : Mt) (w : World) (h : Rf9 w q n G v ts C) (ht : ts[j]? = some t) :
    Calls Try.prog 18 #[dptr q, .int .i64 (j : Int)] w fun e w' => ∃ G' v' ts' C', e = .returned (.tuple #[mv t.1 t.2.1 t.2.2, .bool true]) ∧ Mp w' t.1 t.2.1 t.2.2 G' ∧ Rf9 w' q (Nq.lose n (j : Int)) G' v' ts' C' ∧ Moved w w' (Gq q G) (Gq q G') := by
  have HH : Hid (Rf9 w q n G v ts C) := h
  have HT : Hid (ts[j]? = some t) := ht
  have hjt := (List.getElem?_eq_some_iff.1 ht).1
  obtain ⟨g, cv, rfl, hgg, hcv, hcell⟩ : ∃ g c, v = .slice (some ⟨g, 0, none⟩) ts.length c ∧ G g ∧ ts.length ≤ c ∧ ∀ i x, (cs5 ts)[i]? = some x → w.cell? ⟨g, i, none⟩ = some x := by
    rcases h.row with ⟨_, e⟩ | e
    · rw [e] at hjt
      exact absurd hjt (Nat.not_lt_zero _)
    · exact e
  have HG : Hid (G g ∧ ∀ i x, (cs5 ts)[i]? = some x → w.cell? ⟨g, i, none⟩ = some x) := ⟨hgg, hcell⟩
  obtain ⟨⟨aa, na, ca, ea⟩, ⟨ab, nb, cb, eb⟩⟩ := h.ok t (List.mem_of_getElem? ht)
  have HE : Hid (t.2.1 = .slice aa na ca ∧ t.2.2 = .slice ab nb cb) := ⟨ea, eb⟩
  obtain ⟨m, hm⟩ : ∃ m, m = ts.length := ⟨_, rfl⟩
  have HM : Hid (m = ts.length ∧ m ≤ 65536) := ⟨hm, by rw [hm, h.tlen]; exact Nat.le_trans h.fine.fits h.fine.room⟩
  have cfun : ∀ w', Below w.heap.size w w' → w'.cell? ⟨g, j * 5, none⟩ = some (.int .i64 t.1.fr) ∧ w'.cell? ⟨g, j * 5 + 1, none⟩ = some (.int .i64 t.1.to) ∧ w'.cell? ⟨g, j * 5 + 2, none⟩ = some (.int .i64 t.1.kind) ∧ w'.cell? ⟨g, j * 5 + 3, none⟩ = some (.slice aa na ca) ∧ w'.cell? ⟨g, j * 5 + 4, none⟩ = some (.slice ab nb cb) ∧ w'.cell? ⟨q, 2, none⟩ = some (.slice (some ⟨g, 0, none⟩) m cv) := fun w' hb => by
    have k := fun i u hu => Below.kept hb (hcell (j * 5 + i) u (cs5_at ts j t i u ht hu))
    refine ⟨k 0 _ rfl, k 1 _ rfl, k 2 _ rfl, k 3 _ (by rw [← ea]; rfl), k 4 _ (by rw [← eb]; rfl), ?_⟩
    rw [hm]
    exact Below.kept hb ((h.cell 2).trans h.c2)
  have HC : Hid (∀ w', Below w.heap.size w w' → w'.cell? ⟨g, j * 5, none⟩ = some (.int .i64 t.1.fr) ∧ w'.cell? ⟨g, j * 5 + 1, none⟩ = some (.int .i64 t.1.to) ∧ w'.cell? ⟨g, j * 5 + 2, none⟩ = some (.int .i64 t.1.kind) ∧ w'.cell? ⟨g, j * 5 + 3, none⟩ = some (.slice aa na ca) ∧ w'.cell? ⟨g, j * 5 + 4, none⟩ = some (.slice ab nb cb) ∧ w'.cell? ⟨q, 2, none⟩ = some (.slice (some ⟨g, 0, none⟩) m cv)) := cfun
  rw [← hm] at hjt hcv
  have hj0 : (0 : Int) ≤ (j : Int) := by omega
  have hjm : (j : Int) < (m : Int) := by omega
  have hjm2 : ¬ (m : Int) ≤ (j : Int) := by omega
  have b1 : decide ((j : Int) < 0) = false := decide_eq_false (by omega)
  have hjc : (j : Int) ≤ (cv : Int) := by omega
  have hj1 : ((j : Int) + 1) ≤ (m : Int) := by omega
  have hw1 : IntKind.wrap .i64 ((j : Int) + 1) = (j : Int) + 1 := by have := HM.out.2; rw [IntKind.wrap_i64]; omega
  clear h ht hgg hcell ea eb hm cfun
  have HB1 : Hid (Below w.heap.size w (w.alloc (.cells #[.int .i64 0, .int .i64 0, .int .i64 0, .slice none 0 0, .slice none 0 0] 47))) := (Below.refl _ w).alloc (Nat.le_refl _) _
  obtain ⟨c0, c1, c2, c3, c4, c5q⟩ := HC.out _ HB1.out
  go_enter Try.func18, Try.ntmps18
  go_upto_region 4 with fail
  have HBX : Hid (Below w.heap.size w ((w.alloc (.cells #[.int .i64 0, .int .i64 0, .int .i64 0, .slice none 0 0, .slice none 0 0] 47)).alloc (.cells #[.int .i64 t.1.fr, .int .i64 t.1.to, .int .i64 t.1.kind, .slice aa na ca, .slice ab nb cb] 47)).drew) := (HB1.out.alloc HB1.out.size _).drew
  have HBOX : Hid (∀ i u, ([.int .i64 t.1.fr, .int .i64 t.1.to, .int .i64 t.1.kind, .slice aa na ca, .slice ab nb cb] : List Value)[i]? = some u → ((w.alloc (.cells #[.int .i64 0, .int .i64 0, .int .i64 0, .slice none 0 0, .slice none 0 0] 47)).alloc (.cells #[.int .i64 t.1.fr, .int .i64 t.1.to, .int .i64 t.1.kind, .slice aa na ca, .slice ab nb cb] 47)).drew.cell? ⟨w.heap.size + 1, i, none⟩ = some u) := fun i u hu => by
    have hs : (w.alloc (.cells #[.int .i64 0, .int .i64 0, .int .i64 0, .slice none 0 0, .slice none 0 0] 47)).heap.size = w.heap.size + 1 := by simp
    have e := cell?_alloc_at (w.alloc (.cells #[.int .i64 0, .int .i64 0, .int .i64 0, .slice none 0 0, .slice none 0 0] 47)) #[.int .i64 t.1.fr, .int .i64 t.1.to, .int .i64 t.1.kind, .slice aa na ca, .slice ab nb cb] 47 (0, 0) i u (by simpa using hu)
    rw [hs] at e
    exact e
  have HP4 : Hid (((w.alloc (.cells #[.int .i64 0, .int .i64 0, .int .i64 0, .slice none 0 0, .slice none 0 0] 47)).alloc (.cells #[.int .i64 t.1.fr, .int .i64 t.1.to, .int .i64 t.1.kind, .slice aa na ca, .slice ab nb cb] 47)).drew.heap[w.heap.size]? = some (.cells #[.int .i64 0, .int .i64 0, .int .i64 0, .slice none 0 0, .slice none 0 0] 47) ∧ ((w.alloc (.cells #[.int .i64 0, .int .i64 0, .int .i64 0, .slice none 0 0, .slice none 0 0] 47)).alloc (.cells #[.int .i64 t.1.fr, .int .i64 t.1.to, .int .i64 t.1.kind, .slice aa na ca, .slice ab nb cb] 47)).drew.heap.size = w.heap.size + 2) := by
    refine ⟨?_, by simp [World.drew]⟩
    have e := heap_alloc_new w (.cells #[.int .i64 0, .int .i64 0, .int .i64 0, .slice none 0 0, .slice none 0 0] 47)
    have e2 := ((Below.refl _ (w.alloc (.cells #[.int .i64 0, .int .i64 0, .int .i64 0, .slice none 0 0, .slice none 0 0] 47))).alloc (Nat.le_refl _) (.cells #[.int .i64 t.1.fr, .int .i64 t.1.to, .int .i64 t.1.kind, .slice aa na ca, .slice ab nb cb] 47)).block w.heap.size (by simp)
    exact e2.trans e
  refine wp_region_U (fun w' => w'.cell? ⟨q, 2, none⟩ = some (.slice (some ⟨g, 0, none⟩) m cv)) [19] (by kernel_rfl) ?_
  clear c0 c1 c2 c3 c4 c5q
  generalize ((w.alloc (.cells #[.int .i64 0, .int .i64 0, .int .i64 0, .slice none 0 0, .slice none 0 0] 47)).alloc (.cells #[.int .i64 t.1.fr, .int .i64 t.1.to, .int .i64 t.1.kind, .slice aa na ca, .slice ab nb cb] 47)).drew = wX at *
  have HSX : Hid (wX.cell? ⟨q, 2, none⟩ = some (.slice (some ⟨g, 0, none⟩) m cv)) := (HC.out _ HBX.out).2.2.2.2.2
  have hj10 : (0 : Int) ≤ (j : Int) + 1 := by omega
  by_cases hcj : cv = j + 1
  · have hcj2 : ((j : Int) + 1) ≤ (cv : Int) := by omega
    have HCJ : Hid (cv = j + 1) := hcj
    clear hcj
    refine' take_U (i := 0) (d := 26) (v := _) rfl rfl (by kernel_rfl) (by kernel_rfl) (by kernel_rfl) (by kernel_rfl) (by kernel_rfl) (by kernel_rfl) (fun _ _ _ h => h) (Or.inl ⟨by rfl, ?h0⟩) (HSX.out) ?_
    case h0 => intro w hSw; go_simp; with_reducible rfl
    simp only [List.setIfInBounds_toArray, List.set_cons_zero, List.set_cons_succ]
    refine' take_U (i := 2) (d := 28) (v := _) rfl rfl (by kernel_rfl) (by kernel_rfl) (by kernel_rfl) (by kernel_rfl) (by kernel_rfl) (by kernel_rfl) (fun _ _ _ h => h) (Or.inl ⟨by rfl, ?h2⟩) (HSX.out) ?_
    case h2 => intro w hSw; go_simp; with_reducible rfl
    simp only [List.setIfInBounds_toArray, List.set_cons_zero, List.set_cons_succ]
    refine' take_U (i := 3) (d := 29) (v := _) rfl rfl (by kernel_rfl) (by kernel_rfl) (by kernel_rfl) (by kernel_rfl) (by kernel_rfl) (by kernel_rfl) (fun _ _ _ h => h) (Or.inl ⟨by rfl, ?h3⟩) (HSX.out) ?_
    case h3 => intro w hSw; go_simp; with_reducible rfl
    simp only [List.setIfInBounds_toArray, List.set_cons_zero, List.set_cons_succ]
    refine' take_U (i := 4) (d := 30) (v := _) rfl rfl (by kernel_rfl) (by kernel_rfl) (by kernel_rfl) (by kernel_rfl) (by kernel_rfl) (by kernel_rfl) (fun _ _ _ h => h) (Or.inl ⟨by rfl, ?h4⟩) (HSX.out) ?_
    case h4 => intro w hSw; go_simp; with_reducible rfl
    simp only [List.setIfInBounds_toArray, List.set_cons_zero, List.set_cons_succ]
    refine' take_U (i := 5) (d := 31) (v := _) rfl rfl (by kernel_rfl) (by kernel_rfl) (by kernel_rfl) (by kernel_rfl) (by kernel_rfl) (by kernel_rfl) (fun _ _ _ h => h) (Or.inl ⟨by rfl, ?h5⟩) (HSX.out) ?_
    case h5 => intro w hSw; go_simp; with_reducible rfl
    simp only [List.setIfInBounds_toArray, List.set_cons_zero, List.set_cons_succ]
    refine' take_U (i := 6) (d := 32) (v := _) rfl rfl (by kernel_rfl) (by kernel_rfl) (by kernel_rfl) (by kernel_rfl) (by kernel_rfl) (by kernel_rfl) (fun _ _ _ h => h) (Or.inl ⟨by rfl, ?h6⟩) (HSX.out) ?_
    case h6 => intro w hSw; go_simp; with_reducible rfl
    simp only [List.setIfInBounds_toArray, List.set_cons_zero, List.set_cons_succ]
    refine' take_U (i := 7) (d := 33) (v := _) rfl rfl (by kernel_rfl) (by kernel_rfl) (by kernel_rfl) (by kernel_rfl) (by kernel_rfl) (by kernel_rfl) (fun _ _ _ h => h) (Or.inl ⟨by rfl, ?h7⟩) (HSX.out) ?_
    case h7 => intro w hSw; go_simp; with_reducible rfl
    simp only [List.setIfInBounds_toArray, List.set_cons_zero, List.set_cons_succ]
    refine' take_U (i := 9) (d := 35) (v := _) rfl rfl (by kernel_rfl) (by kernel_rfl) (by kernel_rfl) (by kernel_rfl) (by kernel_rfl) (by kernel_rfl) (fun _ _ _ h => h) (Or.inl ⟨by rfl, ?h9⟩) (HSX.out) ?_
    case h9 => intro w hSw; go_simp; with_reducible rfl
    simp only [List.setIfInBounds_toArray, List.set_cons_zero, List.set_cons_succ]
    refine' take_U (i := 10) (d := 36) (v := _) rfl rfl (by kernel_rfl) (by kernel_rfl) (by kernel_rfl) (by kernel_rfl) (by kernel_rfl) (by kernel_rfl) (fun _ _ _ h => h) (Or.inl ⟨by rfl, ?h10⟩) (HSX.out) ?_
    case h10 => intro w hSw; go_simp; with_reducible rfl
    simp only [List.setIfInBounds_toArray, List.set_cons_zero, List.set_cons_succ]
    refine' take_U (i := 11) (d := 37) (v := _) rfl rfl (by kernel_rfl) (by kernel_rfl) (by kernel_rfl) (by kernel_rfl) (by kernel_rfl) (by kernel_rfl) (fun _ _ _ h => h) (Or.inl ⟨by rfl, ?h11⟩) (HSX.out) ?_
    case h11 => intro w hSw; go_simp; with_reducible rfl
    simp only [List.setIfInBounds_toArray, List.set_cons_zero, List.set_cons_succ]
    refine' take_U (i := 12) (d := 38) (v := _) rfl rfl (by kernel_rfl) (by kernel_rfl) (by kernel_rfl) (by kernel_rfl) (by kernel_rfl) (by kernel_rfl) (fun _ _ _ h => h) (Or.inl ⟨by rfl, ?h12⟩) (HSX.out) ?_
    case h12 => intro w hSw; go_simp; with_reducible rfl
    simp only [List.setIfInBounds_toArray, List.set_cons_zero, List.set_cons_succ]
    refine' take_U (i := 13) (d := 39) (v := _) rfl rfl (by kernel_rfl) (by kernel_rfl) (by kernel_rfl) (by kernel_rfl) (by kernel_rfl) (by kernel_rfl) (fun _ _ _ h => h) (Or.inl ⟨by rfl, ?h13⟩) (HSX.out) ?_
    case h13 => intro w hSw; go_simp; with_reducible rfl
    simp only [List.setIfInBounds_toArray, List.set_cons_zero, List.set_cons_succ]
    refine' take_U (i := 14) (d := 40) (v := _) rfl rfl (by kernel_rfl) (by kernel_rfl) (by kernel_rfl) (by kernel_rfl) (by kernel_rfl) (by kernel_rfl) (fun _ _ _ h => h) (Or.inl ⟨by rfl, ?h14⟩) (HSX.out) ?_
    case h14 => intro w hSw; go_simp; with_reducible rfl
    simp only [List.setIfInBounds_toArray, List.set_cons_zero, List.set_cons_succ]
    refine' take_U (i := 15) (d := 41) (v := _) rfl rfl (by kernel_rfl) (by kernel_rfl) (by kernel_rfl) (by kernel_rfl) (by kernel_rfl) (by kernel_rfl) (fun _ _ _ h => h) (Or.inl ⟨by rfl, ?h15⟩) (HSX.out) ?_
    case h15 => intro w hSw; have hcj := HCJ.out; go_simp; with_reducible rfl
    simp only [List.setIfInBounds_toArray, List.set_cons_zero, List.set_cons_succ]
    refine wpAnyU_ready (rs := [1]) (by kernel_rfl) (by simp) ?_
    refine AllReadyU.cons (o := _) rfl (fun K hK => ?_) AllReadyU.nil
    go_simp
    obtain ⟨q0, hqq⟩ : ∃ z, z = wX.heap.size := ⟨_, rfl⟩
    rw [← hqq]
    have HB2 : Hid (Below wX.heap.size wX (wX.alloc (.cells #[] 47))) := (Below.refl _ wX).alloc (Nat.le_refl _) _
    have HO2 : Hid ((wX.alloc (.cells #[] 47)).ownsRow wX.heap.size 47 5 (.slice (some ⟨q0, 0, none⟩) 0 0) 0 (cs5 [])) := by rw [hqq]; exact World.ownsRow_made wX #[] 0 (Nat.le_refl _) (by decide) rfl
    clear hqq
    generalize wX.alloc (.cells #[] 47) = wY1 at *
    refine hK.out _ _ (fun _ _ => (HC.out _ (HBX.out.trans (HB2.out.mono HBX.out.size))).2.2.2.2.2) ?_
    clear hK K
    refine wpAnyU_ready (rs := [8]) (by kernel_rfl) (by simp) ?_
    refine AllReadyU.cons (o := _) rfl (fun K hK => ?_) AllReadyU.nil
    refine wp_msgs 47 38 Try.underlying38 (.agg #[.int .i64 0, .int .i64 0, .int .i64 0, .slice none 0 0, .slice none 0 0]) rfl infoMsg _ _ rfl wX.heap.size (.slice (some ⟨q0, 0, none⟩) 0 0) (.slice (some ⟨g, 0, none⟩) j cv) 0 [] (ts.take j) wY1 rfl rfl HO2.out HB2.out.size ?hu1 (fun x hx => HH.out.ok x (List.mem_of_mem_take hx)) (by rw [List.length_take]; have h1 := HM.out.1; have h2 := HM.out.2; omega) ?_
    case hu1 =>
      refine Or.inr ⟨⟨g, 0, none⟩, cv, by rw [List.length_take, ← HM.out.1, Nat.min_eq_left (by omega)], fun i x hx => ?_⟩
      rw [add_flat, Nat.zero_add]
      have hx2 : (cs5 ts)[i]? = some x := by
        have hi := (List.getElem?_eq_some_iff.1 hx).1
        rw [cs5_len, List.length_take] at hi
        rw [← cs5_take, List.getElem?_take, if_pos (by omega)] at hx
        exact hx
      exact Below.kept (HBX.out.trans (HB2.out.mono HBX.out.size)) (HG.out.2 i x hx2)
    intro v34 wY2 ho hg hat
    have HO3 : Hid (wY2.ownsRow wX.heap.size 47 5 v34 (0 + (ts.take j).length) (cs5 ([] ++ ts.take j))) := ho
    have HB3 : Hid (Below wX.heap.size wX wY2) := HB2.out.grown hg HB2.out.size (fun z hz => (HO2.out.lt z hz).1)
    obtain ⟨a34, c34, hv34, _⟩ := row_shape9 ho
    obtain ⟨n34, hn34⟩ : ∃ z, z = 0 + (ts.take j).length := ⟨_, rfl⟩
    rw [← hn34] at hv34
    have HN34 : Hid (n34 = 0 + (ts.take j).length) := hn34
    subst hv34
    clear ho hg hat hn34
    go_simp
    refine hK.out _ _ (fun _ _ => (HC.out _ (HBX.out.trans (HB3.out.mono HBX.out.size))).2.2.2.2.2) ?_
    clear hK K
    refine wpAnyU_ready (rs := [16]) (by kernel_rfl) (by simp) ?_
    refine AllReadyU.cons (o := _) rfl (fun K hK => ?_) AllReadyU.nil
    refine wp_msgs 47 38 Try.underlying38 (.agg #[.int .i64 0, .int .i64 0, .int .i64 0, .slice none 0 0, .slice none 0 0]) rfl infoMsg _ _ rfl wX.heap.size (.slice a34 n34 c34) (.slice (some ⟨g, 0, none⟩) (m - (j + 1)) 0) (0 + (ts.take j).length) ([] ++ ts.take j) (ts.drop (j + 1)) wY2 rfl rfl HO3.out HB3.out.size ?hu2 (fun x hx => HH.out.ok x (List.mem_of_mem_drop hx)) (by rw [List.length_take, List.length_drop]; have h1 := HM.out.1; have h2 := HM.out.2; omega) ?_
    case hu2 =>
      have hmj : m = j + 1 := by have := HCJ.out; omega
      have hdr : ts.drop (j + 1) = [] := List.drop_eq_nil_iff.2 (by rw [← HM.out.1]; omega)
      refine Or.inr ⟨⟨g, 0, none⟩, 0, by rw [List.length_drop, ← HM.out.1], fun i x hx => ?_⟩
      rw [hdr] at hx
      simp [cs5] at hx
    intro v42 wY3 ho hg hat
    have HB4 : Hid (Below wX.heap.size wX wY3) := HB3.out.grown hg HB3.out.size (fun z hz => (HO3.out.lt z hz).1)
    have HO4 : Hid (wY3.ownsRow wX.heap.size 47 5 v42 (ts.take j ++ ts.drop (j + 1)).length (cs5 (ts.take j ++ ts.drop (j + 1)))) := by
      have e := ho
      rw [List.nil_append, Nat.zero_add, ← List.length_append] at e
      exact e
    obtain ⟨a42, c42, hv42, _⟩ := row_shape9 ho
    obtain ⟨n42, hn42⟩ : ∃ z, z = 0 + (ts.take j).length + (ts.drop (j + 1)).length := ⟨_, rfl⟩
    rw [← hn42] at hv42
    subst hv42
    clear ho hg hat hn42
    have HQ4 : Hid (wY3.cell? ⟨q, 2, none⟩ = some (.slice (some ⟨g, 0, none⟩) m cv) ∧ wY3.frozen? ⟨q, 2, none⟩ = false) := ⟨(HC.out _ (HBX.out.trans (HB4.out.mono HBX.out.size))).2.2.2.2.2, (HH.out.below (HBX.out.trans (HB4.out.mono HBX.out.size))).free 2⟩
    go_simp
    refine hK.out _ _ (fun _ _ => HQ4.out.1) ?_
    clear hK K
    refine' take_U (i := 17) (d := 43) (v := _) rfl rfl (by kernel_rfl) (by kernel_rfl) (by kernel_rfl) (by kernel_rfl) (by kernel_rfl) (by kernel_rfl) (fun _ _ _ h => h) (Or.inl ⟨by rfl, ?h17⟩) (HQ4.out.1) ?_
    case h17 => intro w hSw; go_simp; with_reducible rfl
    simp only [List.setIfInBounds_toArray, List.set_cons_zero, List.set_cons_succ]
    refine' take_U (i := 18) (d := 44) (v := _) rfl rfl (by kernel_rfl) (by kernel_rfl) (by kernel_rfl) (by kernel_rfl) (by kernel_rfl) (by kernel_rfl) (fun _ _ _ h => h) (Or.inl ⟨by rfl, ?h18⟩) (HQ4.out.1) ?_
    case h18 => intro w hSw; go_simp; with_reducible rfl
    simp only [List.setIfInBounds_toArray, List.set_cons_zero, List.set_cons_succ]
    refine wpAnyU_ready (rs := [19]) (by kernel_rfl) (by simp) ?_
    refine AllReadyU.cons (o := _) rfl (fun K hK => ?_) AllReadyU.nil
    have hc := HQ4.out.1
    have hz := HQ4.out.2
    go_simp
    clear hc hz
    refine hK.out _ _ (fun h => absurd (by decide) h) ?_
    clear hK K
    refine wpAnyU_done (by kernel_rfl) ?_ _
    have hnr := (HH.out.below HBX.out).newRow (ts' := ts.take j ++ ts.drop (j + 1)) (n' := Nq.lose n (j : Int)) HB4.out HO4.out (fun x hx => ((HH.out.below HBX.out).parts x ((List.mem_append.1 hx).elim List.mem_of_mem_take List.mem_of_mem_drop)).in_new HB4.out (fun k hk => Nat.lt_of_lt_of_le (HH.out.glt k hk) HBX.out.size)) (lose_same n _) (take_ms HH.out HT.out) (fine_lose HH.out.fine _)
    have HNR : Hid (Rf9 (wY3.setCell ⟨q, 2, none⟩ (.slice a42 n42 c42)) q (Nq.lose n (j : Int)) (Gn wX wY3 G) (.slice a42 n42 c42) (ts.take j ++ ts.drop (j + 1)) (C.set 2 (.slice a42 n42 c42)) ∧ Moved wX (wY3.setCell ⟨q, 2, none⟩ (.slice a42 n42 c42)) (Gq q G) (Gq q (Gn wX wY3 G))) := hnr
    clear hnr
    have HZB : Hid (∀ k, k ≠ q → k < wX.heap.size → (wY3.setCell ⟨q, 2, none⟩ (.slice a42 n42 c42)).heap[k]? = wX.heap[k]?) := fun k h1 h2 => (RowKit.Below.heap_setCell _ _ _ _ h1).trans (HB4.out.block k h2)
    generalize wY3.setCell ⟨q, 2, none⟩ (.slice a42 n42 c42) = wz at *
    have hql : q < w.heap.size := HH.out.qlt
    have hxs : wX.heap.size = w.heap.size + 2 := HP4.out.2
    have x6 : ∀ i u, ([.int .i64 t.1.fr, .int .i64 t.1.to, .int .i64 t.1.kind, .slice aa na ca, .slice ab nb cb] : List Value)[i]? = some u → wz.cell? ⟨w.heap.size + 1, i, none⟩ = some u := fun i u hu => (cell_same (HZB.out (w.heap.size + 1) (by omega) (by omega))).trans (HBOX.out i u hu)
    have e0 := x6 0 _ rfl
    have e1 := x6 1 _ rfl
    have e2 := x6 2 _ rfl
    have e3 := x6 3 _ rfl
    have e4 := x6 4 _ rfl
    have hp4 : wz.heap[w.heap.size]? = some (.cells #[.int .i64 0, .int .i64 0, .int .i64 0, .slice none 0 0, .slice none 0 0] 47) := (HZB.out w.heap.size (by omega) (by omega)).trans HP4.out.1
    have HP5 : Hid (wz.heap[w.heap.size]? = some (.cells #[.int .i64 0, .int .i64 0, .int .i64 0, .slice none 0 0, .slice none 0 0] 47)) := hp4
    have y0 : wz.cell? ⟨w.heap.size, 0, none⟩ = some (.int .i64 0) := by simp [World.cell?, hp4]
    have y1 : wz.cell? ⟨w.heap.size, 1, none⟩ = some (.int .i64 0) := by simp [World.cell?, hp4]
    have y2 : wz.cell? ⟨w.heap.size, 2, none⟩ = some (.int .i64 0) := by simp [World.cell?, hp4]
    have y3 : wz.cell? ⟨w.heap.size, 3, none⟩ = some (.slice none 0 0) := by simp [World.cell?, hp4]
    have y4 : wz.cell? ⟨w.heap.size, 4, none⟩ = some (.slice none 0 0) := by simp [World.cell?, hp4]
    have fz : ∀ i, wz.frozen? ⟨w.heap.size, i, none⟩ = false := fun i => by simp [World.frozen?, hp4]
    have f0 := fz 0
    have f1 := fz 1
    have f2 := fz 2
    have f3 := fz 3
    have f4 := fz 4
    have HXS : Hid (q < w.heap.size ∧ wX.heap.size = w.heap.size + 2) := ⟨hql, hxs⟩
    clear x6 hp4 fz hql hxs
    go_wp2
    have HCH : Hid ((∀ k, k ≠ w.heap.size → (((((wz.setCell ⟨w.heap.size, 0, none⟩ (.int .i64 t.1.fr)).setCell ⟨w.heap.size, 1, none⟩ (.int .i64 t.1.to)).setCell ⟨w.heap.size, 2, none⟩ (.int .i64 t.1.kind)).setCell ⟨w.heap.size, 3, none⟩ (.slice aa na ca)).setCell ⟨w.heap.size, 4, none⟩ (.slice ab nb cb)).heap[k]? = wz.heap[k]?) ∧ wz.heap.size ≤ (((((wz.setCell ⟨w.heap.size, 0, none⟩ (.int .i64 t.1.fr)).setCell ⟨w.heap.size, 1, none⟩ (.int .i64 t.1.to)).setCell ⟨w.heap.size, 2, none⟩ (.int .i64 t.1.kind)).setCell ⟨w.heap.size, 3, none⟩ (.slice aa na ca)).setCell ⟨w.heap.size, 4, none⟩ (.slice ab nb cb)).heap.size ∧ (((((wz.setCell ⟨w.heap.size, 0, none⟩ (.int .i64 t.1.fr)).setCell ⟨w.heap.size, 1, none⟩ (.int .i64 t.1.to)).setCell ⟨w.heap.size, 2, none⟩ (.int .i64 t.1.kind)).setCell ⟨w.heap.size, 3, none⟩ (.slice aa na ca)).setCell ⟨w.heap.size, 4, none⟩ (.slice ab nb cb)).os = wz.os ∧ (((((wz.setCell ⟨w.heap.size, 0, none⟩ (.int .i64 t.1.fr)).setCell ⟨w.heap.size, 1, none⟩ (.int .i64 t.1.to)).setCell ⟨w.heap.size, 2, none⟩ (.int .i64 t.1.kind)).setCell ⟨w.heap.size, 3, none⟩ (.slice aa na ca)).setCell ⟨w.heap.size, 4, none⟩ (.slice ab nb cb)).tape = wz.tape ∧ (((((wz.setCell ⟨w.heap.size, 0, none⟩ (.int .i64 t.1.fr)).setCell ⟨w.heap.size, 1, none⟩ (.int .i64 t.1.to)).setCell ⟨w.heap.size, 2, none⟩ (.int .i64 t.1.kind)).setCell ⟨w.heap.size, 3, none⟩ (.slice aa na ca)).setCell ⟨w.heap.size, 4, none⟩ (.slice ab nb cb)).output = wz.output) := by
      refine ⟨fun k hk => ?_, by simp [World.setCell], rfl, rfl, rfl⟩
      rw [RowKit.Below.heap_setCell _ _ _ _ hk, RowKit.Below.heap_setCell _ _ _ _ hk, RowKit.Below.heap_setCell _ _ _ _ hk, RowKit.Below.heap_setCell _ _ _ _ hk, RowKit.Below.heap_setCell _ _ _ _ hk]
    refine bodyPost_ret (v := .tuple #[.agg #[.int .i64 t.1.fr, .int .i64 t.1.to, .int .i64 t.1.kind, .slice aa na ca, .slice ab nb cb], .bool true]) ?_ rfl ?_
    · rw [results_cell_tmp rfl]
      go_simp
    · clear e0 e1 e2 e3 e4 y0 y1 y2 y3 y4 f0 f1 f2 f3 f4
      generalize (((((wz.setCell ⟨w.heap.size, 0, none⟩ (.int .i64 t.1.fr)).setCell ⟨w.heap.size, 1, none⟩ (.int .i64 t.1.to)).setCell ⟨w.heap.size, 2, none⟩ (.int .i64 t.1.kind)).setCell ⟨w.heap.size, 3, none⟩ (.slice aa na ca)).setCell ⟨w.heap.size, 4, none⟩ (.slice ab nb cb)) = wE at *
      have hne : ∀ k, Gq q (Gn wX wY3 G) k → k ≠ w.heap.size := fun k hk e => by
        have h1 := HXS.out
        rcases hk with hk | hk | hk
        · omega
        · have := HH.out.glt k hk
          omega
        · omega
      have hold : ∀ k, k < w.heap.size → k ≠ q → wE.heap[k]? = w.heap[k]? := fun k hk hq => by
        have h1 := HXS.out
        rw [HCH.out.1 k (by omega), HZB.out k hq (by omega)]
        exact HBX.out.block k hk
      refine ⟨by rw [HE.out.1, HE.out.2]; rfl, Gn wX wY3 G, (((HH.out.parts t (List.mem_of_getElem? HT.out)).keep (fun k hk => hold k (HH.out.glt k hk) (fun e => HH.out.gq (e ▸ hk)))).mono (fun _ hk => Or.inl hk)), ⟨_, _, _, HNR.out.1.keep HCH.out.2.1 (fun k hk => HCH.out.1 k (hne k hk))⟩, ⟨?_, ?_, ?_, ?_, fun k hk hG => hold k hk (fun e => hG (Or.inl e)), fun k hk => ?_⟩⟩
      · exact HCH.out.2.2.1.trans (HNR.out.2.os.trans HBX.out.os)
      · exact HCH.out.2.2.2.1.trans (HNR.out.2.tape.trans HBX.out.tape)
      · exact HCH.out.2.2.2.2.trans (HNR.out.2.output.trans HBX.out.output)
      · have h1 := HBX.out.size
        have h2 := HNR.out.2.size
        have h3 := HCH.out.2.1
        omega
      · rcases HNR.out.2.sub k hk with e | e
        · exact Or.inl e
        · exact Or.inr (Nat.le_trans HBX.out.size e)
  · have hcj2 : ((j : Int) + 1) ≤ (cv : Int) := by omega
    refine' take_U (i := 0) (d := 26) (v := _) rfl rfl (by kernel_rfl) (by kernel_rfl) (by kernel_rfl) (by kernel_rfl) (by kernel_rfl) (by kernel_rfl) (fun _ _ _ h => h) (Or.inl ⟨by rfl, ?h0⟩) (HSX.out) ?_
    case h0 => intro w hSw; go_simp; with_reducible rfl
    simp only [List.setIfInBounds_toArray, List.set_cons_zero, List.set_cons_succ]
    refine' take_U (i := 2) (d := 28) (v := _) rfl rfl (by kernel_rfl) (by kernel_rfl) (by kernel_rfl) (by kernel_rfl) (by kernel_rfl) (by kernel_rfl) (fun _ _ _ h => h) (Or.inl ⟨by rfl, ?h2⟩) (HSX.out) ?_
    case h2 => intro w hSw; go_simp; with_reducible rfl
    simp only [List.setIfInBounds_toArray, List.set_cons_zero, List.set_cons_succ]
    refine' take_U (i := 3) (d := 29) (v := _) rfl rfl (by kernel_rfl) (by kernel_rfl) (by kernel_rfl) (by kernel_rfl) (by kernel_rfl) (by kernel_rfl) (fun _ _ _ h => h) (Or.inl ⟨by rfl, ?h3⟩) (HSX.out) ?_
    case h3 => intro w hSw; go_simp; with_reducible rfl
    simp only [List.setIfInBounds_toArray, List.set_cons_zero, List.set_cons_succ]
    refine' take_U (i := 4) (d := 30) (v := _) rfl rfl (by kernel_rfl) (by kernel_rfl) (by kernel_rfl) (by kernel_rfl) (by kernel_rfl) (by kernel_rfl) (fun _ _ _ h => h) (Or.inl ⟨by rfl, ?h4⟩) (HSX.out) ?_
    case h4 => intro w hSw; go_simp; with_reducible rfl
    simp only [List.setIfInBounds_toArray, List.set_cons_zero, List.set_cons_succ]
    refine' take_U (i := 5) (d := 31) (v := _) rfl rfl (by kernel_rfl) (by kernel_rfl) (by kernel_rfl) (by kernel_rfl) (by kernel_rfl) (by kernel_rfl) (fun _ _ _ h => h) (Or.inl ⟨by rfl, ?h5⟩) (HSX.out) ?_
    case h5 => intro w hSw; go_simp; with_reducible rfl
    simp only [List.setIfInBounds_toArray, List.set_cons_zero, List.set_cons_succ]
    refine' take_U (i := 6) (d := 32) (v := _) rfl rfl (by kernel_rfl) (by kernel_rfl) (by kernel_rfl) (by kernel_rfl) (by kernel_rfl) (by kernel_rfl) (fun _ _ _ h => h) (Or.inl ⟨by rfl, ?h6⟩) (HSX.out) ?_
    case h6 => intro w hSw; go_simp; with_reducible rfl
    simp only [List.setIfInBounds_toArray, List.set_cons_zero, List.set_cons_succ]
    refine' take_U (i := 7) (d := 33) (v := _) rfl rfl (by kernel_rfl) (by kernel_rfl) (by kernel_rfl) (by kernel_rfl) (by kernel_rfl) (by kernel_rfl) (fun _ _ _ h => h) (Or.inl ⟨by rfl, ?h7⟩) (HSX.out) ?_
    case h7 => intro w hSw; go_simp; with_reducible rfl
    simp only [List.setIfInBounds_toArray, List.set_cons_zero, List.set_cons_succ]
    refine' take_U (i := 9) (d := 35) (v := _) rfl rfl (by kernel_rfl) (by kernel_rfl) (by kernel_rfl) (by kernel_rfl) (by kernel_rfl) (by kernel_rfl) (fun _ _ _ h => h) (Or.inl ⟨by rfl, ?h9⟩) (HSX.out) ?_
    case h9 => intro w hSw; go_simp; with_reducible rfl
    simp only [List.setIfInBounds_toArray, List.set_cons_zero, List.set_cons_succ]
    refine' take_U (i := 10) (d := 36) (v := _) rfl rfl (by kernel_rfl) (by kernel_rfl) (by kernel_rfl) (by kernel_rfl) (by kernel_rfl) (by kernel_rfl) (fun _ _ _ h => h) (Or.inl ⟨by rfl, ?h10⟩) (HSX.out) ?_
    case h10 => intro w hSw; go_simp; with_reducible rfl
    simp only [List.setIfInBounds_toArray, List.set_cons_zero, List.set_cons_succ]
    refine' take_U (i := 11) (d := 37) (v := _) rfl rfl (by kernel_rfl) (by kernel_rfl) (by kernel_rfl) (by kernel_rfl) (by kernel_rfl) (by kernel_rfl) (fun _ _ _ h => h) (Or.inl ⟨by rfl, ?h11⟩) (HSX.out) ?_
    case h11 => intro w hSw; go_simp; with_reducible rfl
    simp only [List.setIfInBounds_toArray, List.set_cons_zero, List.set_cons_succ]
    refine' take_U (i := 12) (d := 38) (v := _) rfl rfl (by kernel_rfl) (by kernel_rfl) (by kernel_rfl) (by kernel_rfl) (by kernel_rfl) (by kernel_rfl) (fun _ _ _ h => h) (Or.inl ⟨by rfl, ?h12⟩) (HSX.out) ?_
    case h12 => intro w hSw; go_simp; with_reducible rfl
    simp only [List.setIfInBounds_toArray, List.set_cons_zero, List.set_cons_succ]
    refine' take_U (i := 13) (d := 39) (v := _) rfl rfl (by kernel_rfl) (by kernel_rfl) (by kernel_rfl) (by kernel_rfl) (by kernel_rfl) (by kernel_rfl) (fun _ _ _ h => h) (Or.inl ⟨by rfl, ?h13⟩) (HSX.out) ?_
    case h13 => intro w hSw; go_simp; with_reducible rfl
    simp only [List.setIfInBounds_toArray, List.set_cons_zero, List.set_cons_succ]
    refine' take_U (i := 14) (d := 40) (v := _) rfl rfl (by kernel_rfl) (by kernel_rfl) (by kernel_rfl) (by kernel_rfl) (by kernel_rfl) (by kernel_rfl) (fun _ _ _ h => h) (Or.inl ⟨by rfl, ?h14⟩) (HSX.out) ?_
    case h14 => intro w hSw; go_simp; with_reducible rfl
    simp only [List.setIfInBounds_toArray, List.set_cons_zero, List.set_cons_succ]
    refine' take_U (i := 15) (d := 41) (v := _) rfl rfl (by kernel_rfl) (by kernel_rfl) (by kernel_rfl) (by kernel_rfl) (by kernel_rfl) (by kernel_rfl) (fun _ _ _ h => h) (Or.inl ⟨by rfl, ?h15⟩) (HSX.out) ?_
    case h15 => intro w hSw; go_simp; with_reducible rfl
    simp only [List.setIfInBounds_toArray, List.set_cons_zero, List.set_cons_succ]
    refine wpAnyU_ready (rs := [1]) (by kernel_rfl) (by simp) ?_
    refine AllReadyU.cons (o := _) rfl (fun K hK => ?_) AllReadyU.nil
    go_simp
    obtain ⟨q0, hqq⟩ : ∃ z, z = wX.heap.size := ⟨_, rfl⟩
    rw [← hqq]
    have HB2 : Hid (Below wX.heap.size wX (wX.alloc (.cells #[] 47))) := (Below.refl _ wX).alloc (Nat.le_refl _) _
    have HO2 : Hid ((wX.alloc (.cells #[] 47)).ownsRow wX.heap.size 47 5 (.slice (some ⟨q0, 0, none⟩) 0 0) 0 (cs5 [])) := by rw [hqq]; exact World.ownsRow_made wX #[] 0 (Nat.le_refl _) (by decide) rfl
    clear hqq
    generalize wX.alloc (.cells #[] 47) = wY1 at *
    refine hK.out _ _ (fun _ _ => (HC.out _ (HBX.out.trans (HB2.out.mono HBX.out.size))).2.2.2.2.2) ?_
    clear hK K
    refine wpAnyU_ready (rs := [8]) (by kernel_rfl) (by simp) ?_
    refine AllReadyU.cons (o := _) rfl (fun K hK => ?_) AllReadyU.nil
    refine wp_msgs 47 38 Try.underlying38 (.agg #[.int .i64 0, .int .i64 0, .int .i64 0, .slice none 0 0, .slice none 0 0]) rfl infoMsg _ _ rfl wX.heap.size (.slice (some ⟨q0, 0, none⟩) 0 0) (.slice (some ⟨g, 0, none⟩) j cv) 0 [] (ts.take j) wY1 rfl rfl HO2.out HB2.out.size ?hu1 (fun x hx => HH.out.ok x (List.mem_of_mem_take hx)) (by rw [List.length_take]; have h1 := HM.out.1; have h2 := HM.out.2; omega) ?_
    case hu1 =>
      refine Or.inr ⟨⟨g, 0, none⟩, cv, by rw [List.length_take, ← HM.out.1, Nat.min_eq_left (by omega)], fun i x hx => ?_⟩
      rw [add_flat, Nat.zero_add]
      have hx2 : (cs5 ts)[i]? = some x := by
        have hi := (List.getElem?_eq_some_iff.1 hx).1
        rw [cs5_len, List.length_take] at hi
        rw [← cs5_take, List.getElem?_take, if_pos (by omega)] at hx
        exact hx
      exact Below.kept (HBX.out.trans (HB2.out.mono HBX.out.size)) (HG.out.2 i x hx2)
    intro v34 wY2 ho hg hat
    have HO3 : Hid (wY2.ownsRow wX.heap.size 47 5 v34 (0 + (ts.take j).length) (cs5 ([] ++ ts.take j))) := ho
    have HB3 : Hid (Below wX.heap.size wX wY2) := HB2.out.grown hg HB2.out.size (fun z hz => (HO2.out.lt z hz).1)
    obtain ⟨a34, c34, hv34, _⟩ := row_shape9 ho
    obtain ⟨n34, hn34⟩ : ∃ z, z = 0 + (ts.take j).length := ⟨_, rfl⟩
    rw [← hn34] at hv34
    have HN34 : Hid (n34 = 0 + (ts.take j).length) := hn34
    subst hv34
    clear ho hg hat hn34
    go_simp
    refine hK.out _ _ (fun _ _ => (HC.out _ (HBX.out.trans (HB3.out.mono HBX.out.size))).2.2.2.2.2) ?_
    clear hK K
    refine wpAnyU_ready (rs := [16]) (by kernel_rfl) (by simp) ?_
    refine AllReadyU.cons (o := _) rfl (fun K hK => ?_) AllReadyU.nil
    refine wp_msgs 47 38 Try.underlying38 (.agg #[.int .i64 0, .int .i64 0, .int .i64 0, .slice none 0 0, .slice none 0 0]) rfl infoMsg _ _ rfl wX.heap.size (.slice a34 n34 c34) (.slice (some ⟨g, (j + 1) * 5, none⟩) (m - (j + 1)) (cv - (j + 1))) (0 + (ts.take j).length) ([] ++ ts.take j) (ts.drop (j + 1)) wY2 rfl rfl HO3.out HB3.out.size ?hu2 (fun x hx => HH.out.ok x (List.mem_of_mem_drop hx)) (by rw [List.length_take, List.length_drop]; have h1 := HM.out.1; have h2 := HM.out.2; omega) ?_
    case hu2 =>
      refine Or.inr ⟨⟨g, (j + 1) * 5, none⟩, cv - (j + 1), by rw [List.length_drop, ← HM.out.1], fun i x hx => ?_⟩
      rw [add_flat]
      have hx2 : (cs5 ts)[(j + 1) * 5 + i]? = some x := by
        rw [← cs5_drop, List.getElem?_drop] at hx
        exact hx
      exact Below.kept (HBX.out.trans (HB3.out.mono HBX.out.size)) (HG.out.2 _ x hx2)
    intro v42 wY3 ho hg hat
    have HB4 : Hid (Below wX.heap.size wX wY3) := HB3.out.grown hg HB3.out.size (fun z hz => (HO3.out.lt z hz).1)
    have HO4 : Hid (wY3.ownsRow wX.heap.size 47 5 v42 (ts.take j ++ ts.drop (j + 1)).length (cs5 (ts.take j ++ ts.drop (j + 1)))) := by
      have e := ho
      rw [List.nil_append, Nat.zero_add, ← List.length_append] at e
      exact e
    obtain ⟨a42, c42, hv42, _⟩ := row_shape9 ho
    obtain ⟨n42, hn42⟩ : ∃ z, z = 0 + (ts.take j).length + (ts.drop (j + 1)).length := ⟨_, rfl⟩
    rw [← hn42] at hv42
    subst hv42
    clear ho hg hat hn42
    have HQ4 : Hid (wY3.cell? ⟨q, 2, none⟩ = some (.slice (some ⟨g, 0, none⟩) m cv) ∧ wY3.frozen? ⟨q, 2, none⟩ = false) := ⟨(HC.out _ (HBX.out.trans (HB4.out.mono HBX.out.size))).2.2.2.2.2, (HH.out.below (HBX.out.trans (HB4.out.mono HBX.out.size))).free 2⟩
    go_simp
    refine hK.out _ _ (fun _ _ => HQ4.out.1) ?_
    clear hK K
    refine' take_U (i := 17) (d := 43) (v := _) rfl rfl (by kernel_rfl) (by kernel_rfl) (by kernel_rfl) (by kernel_rfl) (by kernel_rfl) (by kernel_rfl) (fun _ _ _ h => h) (Or.inl ⟨by rfl, ?h17⟩) (HQ4.out.1) ?_
    case h17 => intro w hSw; go_simp; with_reducible rfl
    simp only [List.setIfInBounds_toArray, List.set_cons_zero, List.set_cons_succ]
    refine' take_U (i := 18) (d := 44) (v := _) rfl rfl (by kernel_rfl) (by kernel_rfl) (by kernel_rfl) (by kernel_rfl) (by kernel_rfl) (by kernel_rfl) (fun _ _ _ h => h) (Or.inl ⟨by rfl, ?h18⟩) (HQ4.out.1) ?_
    case h18 => intro w hSw; go_simp; with_reducible rfl
    simp only [List.setIfInBounds_toArray, List.set_cons_zero, List.set_cons_succ]
    refine wpAnyU_ready (rs := [19]) (by kernel_rfl) (by simp) ?_
    refine AllReadyU.cons (o := _) rfl (fun K hK => ?_) AllReadyU.nil
    have hc := HQ4.out.1
    have hz := HQ4.out.2
    go_simp
    clear hc hz
    refine hK.out _ _ (fun h => absurd (by decide) h) ?_
    clear hK K
    refine wpAnyU_done (by kernel_rfl) ?_ _
    have hnr := (HH.out.below HBX.out).newRow (ts' := ts.take j ++ ts.drop (j + 1)) (n' := Nq.lose n (j : Int)) HB4.out HO4.out (fun x hx => ((HH.out.below HBX.out).parts x ((List.mem_append.1 hx).elim List.mem_of_mem_take List.mem_of_mem_drop)).in_new HB4.out (fun k hk => Nat.lt_of_lt_of_le (HH.out.glt k hk) HBX.out.size)) (lose_same n _) (take_ms HH.out HT.out) (fine_lose HH.out.fine _)
    have HNR : Hid (Rf9 (wY3.setCell ⟨q, 2, none⟩ (.slice a42 n42 c42)) q (Nq.lose n (j : Int)) (Gn wX wY3 G) (.slice a42 n42 c42) (ts.take j ++ ts.drop (j + 1)) (C.set 2 (.slice a42 n42 c42)) ∧ Moved wX (wY3.setCell ⟨q, 2, none⟩ (.slice a42 n42 c42)) (Gq q G) (Gq q (Gn wX wY3 G))) := hnr
    clear hnr
    have HZB : Hid (∀ k, k ≠ q → k < wX.heap.size → (wY3.setCell ⟨q, 2, none⟩ (.slice a42 n42 c42)).heap[k]? = wX.heap[k]?) := fun k h1 h2 => (RowKit.Below.heap_setCell _ _ _ _ h1).trans (HB4.out.block k h2)
    generalize wY3.setCell ⟨q, 2, none⟩ (.slice a42 n42 c42) = wz at *
    have hql : q < w.heap.size := HH.out.qlt
    have hxs : wX.heap.size = w.heap.size + 2 := HP4.out.2
    have x6 : ∀ i u, ([.int .i64 t.1.fr, .int .i64 t.1.to, .int .i64 t.1.kind, .slice aa na ca, .slice ab nb cb] : List Value)[i]? = some u → wz.cell? ⟨w.heap.size + 1, i, none⟩ = some u := fun i u hu => (cell_same (HZB.out (w.heap.size + 1) (by omega) (by omega))).trans (HBOX.out i u hu)
    have e0 := x6 0 _ rfl
    have e1 := x6 1 _ rfl
    have e2 := x6 2 _ rfl
    have e3 := x6 3 _ rfl
    have e4 := x6 4 _ rfl
    have hp4 : wz.heap[w.heap.size]? = some (.cells #[.int .i64 0, .int .i64 0, .int .i64 0, .slice none 0 0, .slice none 0 0] 47) := (HZB.out w.heap.size (by omega) (by omega)).trans HP4.out.1
    have HP5 : Hid (wz.heap[w.heap.size]? = some (.cells #[.int .i64 0, .int .i64 0, .int .i64 0, .slice none 0 0, .slice none 0 0] 47)) := hp4
    have y0 : wz.cell? ⟨w.heap.size, 0, none⟩ = some (.int .i64 0) := by simp [World.cell?, hp4]
    have y1 : wz.cell? ⟨w.heap.size, 1, none⟩ = some (.int .i64 0) := by simp [World.cell?, hp4]
    have y2 : wz.cell? ⟨w.heap.size, 2, none⟩ = some (.int .i64 0) := by simp [World.cell?, hp4]
    have y3 : wz.cell? ⟨w.heap.size, 3, none⟩ = some (.slice none 0 0) := by simp [World.cell?, hp4]
    have y4 : wz.cell? ⟨w.heap.size, 4, none⟩ = some (.slice none 0 0) := by simp [World.cell?, hp4]
    have fz : ∀ i, wz.frozen? ⟨w.heap.size, i, none⟩ = false := fun i => by simp [World.frozen?, hp4]
    have f0 := fz 0
    have f1 := fz 1
    have f2 := fz 2
    have f3 := fz 3
    have f4 := fz 4
    have HXS : Hid (q < w.heap.size ∧ wX.heap.size = w.heap.size + 2) := ⟨hql, hxs⟩
    clear x6 hp4 fz hql hxs
    go_wp2
    have HCH : Hid ((∀ k, k ≠ w.heap.size → (((((wz.setCell ⟨w.heap.size, 0, none⟩ (.int .i64 t.1.fr)).setCell ⟨w.heap.size, 1, none⟩ (.int .i64 t.1.to)).setCell ⟨w.heap.size, 2, none⟩ (.int .i64 t.1.kind)).setCell ⟨w.heap.size, 3, none⟩ (.slice aa na ca)).setCell ⟨w.heap.size, 4, none⟩ (.slice ab nb cb)).heap[k]? = wz.heap[k]?) ∧ wz.heap.size ≤ (((((wz.setCell ⟨w.heap.size, 0, none⟩ (.int .i64 t.1.fr)).setCell ⟨w.heap.size, 1, none⟩ (.int .i64 t.1.to)).setCell ⟨w.heap.size, 2, none⟩ (.int .i64 t.1.kind)).setCell ⟨w.heap.size, 3, none⟩ (.slice aa na ca)).setCell ⟨w.heap.size, 4, none⟩ (.slice ab nb cb)).heap.size ∧ (((((wz.setCell ⟨w.heap.size, 0, none⟩ (.int .i64 t.1.fr)).setCell ⟨w.heap.size, 1, none⟩ (.int .i64 t.1.to)).setCell ⟨w.heap.size, 2, none⟩ (.int .i64 t.1.kind)).setCell ⟨w.heap.size, 3, none⟩ (.slice aa na ca)).setCell ⟨w.heap.size, 4, none⟩ (.slice ab nb cb)).os = wz.os ∧ (((((wz.setCell ⟨w.heap.size, 0, none⟩ (.int .i64 t.1.fr)).setCell ⟨w.heap.size, 1, none⟩ (.int .i64 t.1.to)).setCell ⟨w.heap.size, 2, none⟩ (.int .i64 t.1.kind)).setCell ⟨w.heap.size, 3, none⟩ (.slice aa na ca)).setCell ⟨w.heap.size, 4, none⟩ (.slice ab nb cb)).tape = wz.tape ∧ (((((wz.setCell ⟨w.heap.size, 0, none⟩ (.int .i64 t.1.fr)).setCell ⟨w.heap.size, 1, none⟩ (.int .i64 t.1.to)).setCell ⟨w.heap.size, 2, none⟩ (.int .i64 t.1.kind)).setCell ⟨w.heap.size, 3, none⟩ (.slice aa na ca)).setCell ⟨w.heap.size, 4, none⟩ (.slice ab nb cb)).output = wz.output) := by
      refine ⟨fun k hk => ?_, by simp [World.setCell], rfl, rfl, rfl⟩
      rw [RowKit.Below.heap_setCell _ _ _ _ hk, RowKit.Below.heap_setCell _ _ _ _ hk, RowKit.Below.heap_setCell _ _ _ _ hk, RowKit.Below.heap_setCell _ _ _ _ hk, RowKit.Below.heap_setCell _ _ _ _ hk]
    refine bodyPost_ret (v := .tuple #[.agg #[.int .i64 t.1.fr, .int .i64 t.1.to, .int .i64 t.1.kind, .slice aa na ca, .slice ab nb cb], .bool true]) ?_ rfl ?_
    · rw [results_cell_tmp rfl]
      go_simp
    · clear e0 e1 e2 e3 e4 y0 y1 y2 y3 y4 f0 f1 f2 f3 f4
      generalize (((((wz.setCell ⟨w.heap.size, 0, none⟩ (.int .i64 t.1.fr)).setCell ⟨w.heap.size, 1, none⟩ (.int .i64 t.1.to)).setCell ⟨w.heap.size, 2, none⟩ (.int .i64 t.1.kind)).setCell ⟨w.heap.size, 3, none⟩ (.slice aa na ca)).setCell ⟨w.heap.size, 4, none⟩ (.slice ab nb cb)) = wE at *
      have hne : ∀ k, Gq q (Gn wX wY3 G) k → k ≠ w.heap.size := fun k hk e => by
        have h1 := HXS.out
        rcases hk with hk | hk | hk
        · omega
        · have := HH.out.glt k hk
          omega
        · omega
      have hold : ∀ k, k < w.heap.size → k ≠ q → wE.heap[k]? = w.heap[k]? := fun k hk hq => by
        have h1 := HXS.out
        rw [HCH.out.1 k (by omega), HZB.out k hq (by omega)]
        exact HBX.out.block k hk
      refine ⟨by rw [HE.out.1, HE.out.2]; rfl, Gn wX wY3 G, (((HH.out.parts t (List.mem_of_getElem? HT.out)).keep (fun k hk => hold k (HH.out.glt k hk) (fun e => HH.out.gq (e ▸ hk)))).mono (fun _ hk => Or.inl hk)), ⟨_, _, _, HNR.out.1.keep HCH.out.2.1 (fun k hk => HCH.out.1 k (hne k hk))⟩, ⟨?_, ?_, ?_, ?_, fun k hk hG => hold k hk (fun e => hG (Or.inl e)), fun k hk => ?_⟩⟩
      · exact HCH.out.2.2.1.trans (HNR.out.2.os.trans HBX.out.os)
      · exact HCH.out.2.2.2.1.trans (HNR.out.2.tape.trans HBX.out.tape)
      · exact HCH.out.2.2.2.2.trans (HNR.out.2.output.trans HBX.out.output)
      · have h1 := HBX.out.size
        have h2 := HNR.out.2.size
        have h3 := HCH.out.2.1
        omega
      · rcases HNR.out.2.sub k hk with e | e
        · exact Or.inl e
        · exact Or.inr (Nat.le_trans HBX.out.size e)


theorem refTake_any (q : Nat) (n : Nq.Nt) (G : Nat → Prop) (v : Value) (ts : List Mt) (C : List Value) (k : Int) (w : World) (h : Rf9 w q n G v ts C) :
    Calls Try.prog 18 #[dptr q, .int .i64 k] w fun e w' => ∃ G' v' ts' C' a b, e = .returned (.tuple #[mv (Nq.at_ n k) a b, .bool (Nq.has n k)]) ∧ Mp w' (Nq.at_ n k) a b G' ∧ Rf9 w' q (Nq.lose n k) G' v' ts' C' ∧ Moved w w' (Gq q G) (Gq q G') := by
  by_cases hk : k < 0 ∨ (ts.length : Int) ≤ k
  · have hh : Nq.has n k = false := by
      unfold Nq.has
      rw [← h.tlen]
      rcases hk with e | e
      · rw [decide_eq_false (by omega), Bool.false_and]
      · rw [decide_eq_false (p := k < (ts.length : Int)) (by omega), Bool.and_false]
    refine (refTake_no q n G v ts C k w h hk).mono ?_
    rintro e w' ⟨rfl, hb⟩
    rw [hh, Nq.at_not hh, Nq.lose_not hh]
    exact ⟨G, v, ts, C, _, _, rfl, Mp.zero _ _, h.below hb, Moved.of_below _ hb⟩
  · obtain ⟨j, hj⟩ : ∃ j : Nat, k = (j : Int) := ⟨k.toNat, by omega⟩
    subst hj
    have ht : ts[j]? = some (ts[j]'(by omega)) := List.getElem?_eq_getElem _
    obtain ⟨h1, h2⟩ := h.msg ht
    refine (refTake_yes q n G v ts C j _ w h ht).mono ?_
    rintro e w' ⟨G', v', ts', C', rfl, h3, h4, h5⟩
    rw [h1, h2]
    exact ⟨G', v', ts', C', _, _, rfl, h3, h4, h5⟩

section
variable {w w' : World} {q : Nat} {n : Nq.Nt} {G : Nat → Prop} {v : Value} {ts : List Mt} {C : List Value}
/-- Its row is read. -/
theorem Rf9.src (h : Rf9 w q n G v ts C) (hb : Below w.heap.size w w') : Ms5 w' v ts := by
  rcases h.row with h1 | ⟨g, c, e, _, _, hc⟩
  · exact Or.inl h1
  · refine Or.inr ⟨⟨g, 0, none⟩, c, e, fun i x hx => ?_⟩
    rw [add_flat, Nat.zero_add]
    exact Below.kept hb (hc i x hx)
/-- One message that lies in a block. -/
theorem one_src {q1 : Nat} {t : Mt} {a b : Value} (ha : t.2.1 = a) (hb : t.2.2 = b) (h : ∀ i u, ([.int .i64 t.1.fr, .int .i64 t.1.to, .int .i64 t.1.kind, a, b] : List Value)[i]? = some u → w.cell? ⟨q1, i, none⟩ = some u) : Ms5 w (.slice (some ⟨q1, 0, none⟩) 1 1) [t] := by
  refine Or.inr ⟨⟨q1, 0, none⟩, 1, rfl, fun i x hx => ?_⟩
  rw [add_flat, Nat.zero_add]
  refine h i x ?_
  rw [← ha, ← hb]
  simpa [cs5, c5] using hx
end
end Go.Proofs.Ytkldecdjokfajaa
