/- What the disk's shorten and keep do. -/
import Derived.Test.YtmbpkbdaakchiaaWFile7
namespace Go.Proofs.Ytmbpkbdaakchiaa
open Go.RowKit

section
variable {w : World} {q m u : Nat} {st : Dq.St} {G : Nat → Prop} {D : DataW Nat} {P : ByteArray → Nat} {V : ByteArray → Value}

theorem set_other7 (w : World) (a : Addr) (x : Value) {k : Nat} (hk : k ≠ a.block) : (w.setCell a x).heap[k]? = w.heap[k]? := RowKit.Below.heap_setCell _ _ _ _ hk
theorem set_size7 (w : World) (a : Addr) (x : Value) : (w.setCell a x).heap.size = w.heap.size := by simp [World.setCell]

/-- What is written of a file: what the disk takes for all bytes, then its own bytes, then how many are safe. -/
theorem DkU.cutFile {w2 : World} {f : Dq.Fl} {g : Dq.Fl → Dq.Fl} {s : ByteArray} {v' : Value} {u2 : Nat} (h : DkU w q st G m D P V u) (hr : Dq.Rises st.fs) (hf : f ∈ st.fs) (hn : f.name = s) (hg : ∀ x, (g x).name = x.name)
    (hb : Below w.heap.size (w.setCell ⟨q, 2, none⟩ (.int .i64 (u2 : Int))) w2) (row : w2.ownsRow 0 5 1 v' (g f).b.length (bc (g f).b)) (hloc : ∀ k, v'.ownBlock = some k → (V s).ownBlock = some k ∨ w.heap.size ≤ k) :
    let w4 := (w2.setCell ⟨P s, 0, none⟩ v').setCell ⟨P s, 1, none⟩ (.int .i64 ((g f).safe : Int))
    DkU w4 q { st with fs := Dq.upd s g st.fs } (Gd w w4 G) m D P (fun x => if x = s then v' else V x) u2 ∧ Moved w w4 G (Gd w w4 G) ∧ w4.heap[m]? = w.heap[m]? := by
  intro w4
  subst hn
  have hpq := h.p_q hf
  have hplt := (h.file f hf).blk.lt
  have hqlt := h.blk.lt
  have hs1 : (w.setCell ⟨q, 2, none⟩ (.int .i64 (u2 : Int))).heap.size = w.heap.size := set_size7 _ _ _
  have hs2 := hb.size
  have hs4 : w4.heap.size = w2.heap.size := by show ((w2.setCell _ _).setCell _ _).heap.size = _; rw [set_size7, set_size7]
  have bq : Blk w2 q [.map (some m), .int .i64 (st.room : Int), .int .i64 (u2 : Int), .bool (!st.off), .int .i64 (st.lives : Int)] 46 := (h.blk.set 2 (.int .i64 (u2 : Int))).keep (hb.block q hqlt)
  have bp : Blk w2 (P f.name) [V f.name, .int .i64 (f.safe : Int)] 63 := ((h.file f hf).blk.keep (set_other7 _ _ _ hpq)).keep (hb.block _ hplt)
  have hvp : ∀ k, v'.ownBlock = some k → k ≠ P f.name := fun k hk e => by
    obtain ⟨cur, hc⟩ := row_block row hk
    unfold Blk at bp
    rw [e, bp] at hc
    simp only [Option.some.injEq, Obj.cells.injEq] at hc
    exact absurd hc.2.1 (by decide)
  have h4 : ∀ k, k ≠ P f.name → w4.heap[k]? = w2.heap[k]? := fun k hk => (set_other7 _ _ _ hk).trans (set_other7 _ _ _ hk)
  refine h.change hr hf rfl hg (bq.keep (h4 q (Ne.symm hpq))) ⟨(bp.set 0 v').set 1 (.int .i64 ((g f).safe : Int)), row_keep row (fun k hk => h4 k (hvp k hk))⟩ hloc ⟨hb.os, hb.tape, hb.output, by omega, fun k hk hF => ?_, fun k hk => Or.inl hk⟩
  have n1 : k ≠ q := fun e => hF (Or.inl e)
  have n2 : k ≠ P f.name := fun e => hF (Or.inr (Or.inl e))
  exact (h4 k n2).trans ((hb.block k hk).trans (set_other7 _ _ _ n1))

set_option maxRecDepth 20000 in
set_option maxHeartbeats 4000000 in
theorem shorten_any7 {f : Dq.Fl} {s : ByteArray} {n : Nat} (h : DkU w q st G m D P V u) (hr : Dq.Rises st.fs) (hf : f ∈ st.fs) (hn : f.name = s) (hle : n ≤ f.b.length) (hu : f.b.length ≤ u) (hu2 : u ≤ 100000000) :
    Calls Try.prog 33 #[dptr q, fptr (P s), .int .i64 (n : Int)] w fun e w' => e = .returned (.tuple #[]) ∧ ∃ V', DkU w' q { st with fs := Dq.upd s (fun f => { f with b := f.b.take n, safe := min f.safe n }) st.fs } (Gd w w' G) m D P V' (u - (f.b.length - n)) ∧ Moved w w' G (Gd w w' G) ∧ w'.heap[m]? = w.heap[m]? := by
  have HD : Hid (DkU w q st G m D P V u ∧ Dq.Rises st.fs ∧ f ∈ st.fs ∧ f.name = s) := ⟨h, hr, hf, hn⟩
  obtain ⟨p, hp⟩ : ∃ p, p = P s := ⟨_, rfl⟩
  rw [← hp]
  have HP : Hid (p = P s) := hp
  have hfd : Fd w p (V s) f := by have := h.file f hf; rw [hn, ← hp] at this; exact this
  have HQ : Hid (p ≠ q) := by have := h.p_q hf; rw [hn, ← hp] at this; exact this
  obtain ⟨av, cv, hvs, hcv⟩ := row_slice hfd.row
  have HVS : Hid (V s = .slice av f.b.length cv) := hvs
  obtain ⟨N, hN⟩ : ∃ N, N = f.b.length := ⟨_, rfl⟩
  have HN : Hid (N = f.b.length) := hN
  rw [← hN] at hle hu hvs hcv HVS ⊢
  obtain ⟨k, hk⟩ : ∃ k, N = n + k := ⟨N - n, by omega⟩
  obtain ⟨u2, hk2⟩ : ∃ u2, u = u2 + k := ⟨u - k, by omega⟩
  have HU : Hid (u - (N - n) = u2) := by
    have h : u - (N - n) = u2 := by omega
    exact h
  rw [HU.out]
  have HFI : Hid (∀ W, W.ownsRow 0 5 1 (.slice av N cv) f.b.length (bc f.b) → Calls Try.prog 46 #[.slice av N cv, .int .i64 (n : Int)] W fun e w' => ∃ v', e = .returned v' ∧ w'.ownsRow 0 5 1 v' (f.b.take n).length (bc (f.b.take n)) ∧ (∀ k, v'.ownBlock = some k → (Value.slice av N cv).ownBlock = some k ∨ W.heap.size ≤ k) ∧ Below W.heap.size W w') := fun W hW => first_any7 _ f.b n W hW (by omega) (by omega)
  have hw1 : IntKind.wrap .i64 ((N : Int) - (n : Int)) = (k : Int) := by rw [IntKind.wrap_i64]; omega
  have hw2 : IntKind.wrap .i64 ((u : Int) - (k : Int)) = (u2 : Int) := by rw [IntKind.wrap_i64]; omega
  obtain ⟨sf, hsf⟩ : ∃ sf, sf = f.safe := ⟨_, rfl⟩
  have HSF : Hid (sf = f.safe) := hsf
  have c2 : w.cell? ⟨q, 2, none⟩ = some (.int .i64 (u : Int)) := h.blk.cell 2
  have z2 := h.blk.free 2
  have p0 : w.cell? ⟨p, 0, none⟩ = some (.slice av N cv) := by rw [← hvs]; exact hfd.blk.cell 0
  have HCE : Hid (w.cell? ⟨q, 2, none⟩ = some (.int .i64 (u : Int)) ∧ w.cell? ⟨p, 0, none⟩ = some (.slice av N cv)) := ⟨c2, p0⟩
  clear h hr hf hn hp hfd hvs hN hsf hk hk2 hle hu hu2 c2 p0
  go_enter Try.func33, Try.ntmps33
  go_wp2_with fail
  refine wp_region_T (fun w' => w'.cell? ⟨q, 2, none⟩ = some (.int .i64 (u : Int)) ∧ w'.cell? ⟨p, 0, none⟩ = some (.slice av N cv)) 14 (by kernel_rfl) ?_
  have HSX : Hid (w.drew.cell? ⟨q, 2, none⟩ = some (.int .i64 (u : Int)) ∧ w.drew.cell? ⟨p, 0, none⟩ = some (.slice av N cv)) := HCE.out
  have hzx : w.drew.frozen? ⟨q, 2, none⟩ = false := z2
  have HDX : Hid (DkU w.drew q st G m D P V u) := HD.out.1.below (Below.refl _ _).drew
  have HMX : Hid (Moved w w.drew G G ∧ w.drew.heap = w.heap) := ⟨Moved.of_below G (Below.refl _ _).drew, rfl⟩
  clear z2
  generalize w.drew = wX at *
  refine' take_T (i := 0) (d := 6) (v := _) rfl rfl (by kernel_rfl) (by kernel_rfl) (by kernel_rfl) (by kernel_rfl) (by kernel_rfl) (fun _ _ _ h => h) (Or.inl ⟨by rfl, ?h0⟩) HSX.out ?_
  case h0 => intro w hSw; go_simp; with_reducible rfl
  simp only [List.setIfInBounds_toArray, List.set_cons_zero, List.set_cons_succ]
  refine' take_T (i := 1) (d := 7) (v := _) rfl rfl (by kernel_rfl) (by kernel_rfl) (by kernel_rfl) (by kernel_rfl) (by kernel_rfl) (fun _ _ _ h => h) (Or.inl ⟨by rfl, ?h1⟩) HSX.out ?_
  case h1 => intro w hSw; go_simp; with_reducible rfl
  simp only [List.setIfInBounds_toArray, List.set_cons_zero, List.set_cons_succ]
  refine' take_T (i := 2) (d := 8) (v := _) rfl rfl (by kernel_rfl) (by kernel_rfl) (by kernel_rfl) (by kernel_rfl) (by kernel_rfl) (fun _ _ _ h => h) (Or.inl ⟨by rfl, ?h2⟩) HSX.out ?_
  case h2 => intro w hSw; go_simp; with_reducible rfl
  simp only [List.setIfInBounds_toArray, List.set_cons_zero, List.set_cons_succ]
  refine' take_T (i := 3) (d := 9) (v := _) rfl rfl (by kernel_rfl) (by kernel_rfl) (by kernel_rfl) (by kernel_rfl) (by kernel_rfl) (fun _ _ _ h => h) (Or.inl ⟨by rfl, ?h3⟩) HSX.out ?_
  case h3 => intro w hSw; obtain ⟨hs1, hs2⟩ := hSw; go_simp; with_reducible rfl
  simp only [List.setIfInBounds_toArray, List.set_cons_zero, List.set_cons_succ]
  refine' take_T (i := 4) (d := 10) (v := _) rfl rfl (by kernel_rfl) (by kernel_rfl) (by kernel_rfl) (by kernel_rfl) (by kernel_rfl) (fun _ _ _ h => h) (Or.inl ⟨by rfl, ?h4⟩) HSX.out ?_
  case h4 => intro w hSw; go_simp; with_reducible rfl
  simp only [List.setIfInBounds_toArray, List.set_cons_zero, List.set_cons_succ]
  refine' take_T (i := 5) (d := 11) (v := _) rfl rfl (by kernel_rfl) (by kernel_rfl) (by kernel_rfl) (by kernel_rfl) (by kernel_rfl) (fun _ _ _ h => h) (Or.inl ⟨by rfl, ?h5⟩) HSX.out ?_
  case h5 => intro w hSw; go_simp; with_reducible rfl
  simp only [List.setIfInBounds_toArray, List.set_cons_zero, List.set_cons_succ]
  refine' take_T (i := 6) (d := 12) (v := _) rfl rfl (by kernel_rfl) (by kernel_rfl) (by kernel_rfl) (by kernel_rfl) (by kernel_rfl) (fun _ _ _ h => h) (Or.inl ⟨by rfl, ?h6⟩) HSX.out ?_
  case h6 => intro w hSw; go_simp; with_reducible rfl
  simp only [List.setIfInBounds_toArray, List.set_cons_zero, List.set_cons_succ]
  refine' take_T (i := 7) (d := 13) (v := _) rfl rfl (by kernel_rfl) (by kernel_rfl) (by kernel_rfl) (by kernel_rfl) (by kernel_rfl) (fun _ _ _ h => h) (Or.inl ⟨by rfl, ?h7⟩) HSX.out ?_
  case h7 => intro w hSw; obtain ⟨hs1, hs2⟩ := hSw; go_simp; with_reducible rfl
  simp only [List.setIfInBounds_toArray, List.set_cons_zero, List.set_cons_succ]
  refine' take_T (i := 8) (d := 14) (v := _) rfl rfl (by kernel_rfl) (by kernel_rfl) (by kernel_rfl) (by kernel_rfl) (by kernel_rfl) (fun _ _ _ h => h) (Or.inl ⟨by rfl, ?h8⟩) HSX.out ?_
  case h8 => intro w hSw; go_simp; with_reducible rfl
  simp only [List.setIfInBounds_toArray, List.set_cons_zero, List.set_cons_succ]
  refine' take_T (i := 9) (d := 15) (v := _) rfl rfl (by kernel_rfl) (by kernel_rfl) (by kernel_rfl) (by kernel_rfl) (by kernel_rfl) (fun _ _ _ h => h) (Or.inl ⟨by rfl, ?h9⟩) HSX.out ?_
  case h9 => intro w hSw; go_simp; with_reducible rfl
  simp only [List.setIfInBounds_toArray, List.set_cons_zero, List.set_cons_succ]
  refine' take_T (i := 10) (d := 16) (v := _) rfl rfl (by kernel_rfl) (by kernel_rfl) (by kernel_rfl) (by kernel_rfl) (by kernel_rfl) (fun _ _ _ h => h) (Or.inl ⟨by rfl, ?h10⟩) HSX.out ?_
  case h10 => intro w hSw; go_simp; with_reducible rfl
  simp only [List.setIfInBounds_toArray, List.set_cons_zero, List.set_cons_succ]
  refine' take_T (i := 11) (d := 17) (v := _) rfl rfl (by kernel_rfl) (by kernel_rfl) (by kernel_rfl) (by kernel_rfl) (by kernel_rfl) (fun _ _ _ h => h) (Or.inl ⟨by rfl, ?h11⟩) HSX.out ?_
  case h11 => intro w hSw; go_simp; with_reducible rfl
  simp only [List.setIfInBounds_toArray, List.set_cons_zero, List.set_cons_succ]
  refine' take_T (i := 12) (d := 18) (v := _) rfl rfl (by kernel_rfl) (by kernel_rfl) (by kernel_rfl) (by kernel_rfl) (by kernel_rfl) (fun _ _ _ h => h) (Or.inl ⟨by rfl, ?h12⟩) HSX.out ?_
  case h12 => intro w hSw; go_simp; with_reducible rfl
  simp only [List.setIfInBounds_toArray, List.set_cons_zero, List.set_cons_succ]
  refine' take_T (i := 13) (d := 19) (v := _) rfl rfl (by kernel_rfl) (by kernel_rfl) (by kernel_rfl) (by kernel_rfl) (by kernel_rfl) (fun _ _ _ h => h) (Or.inl ⟨by rfl, ?h13⟩) HSX.out ?_
  case h13 => intro w hSw; go_simp; with_reducible rfl
  simp only [List.setIfInBounds_toArray, List.set_cons_zero, List.set_cons_succ]
  refine wpAnyT_ready (rs := [14]) (by kernel_rfl) (by simp) ?_
  refine AllReadyT.cons (o := _) rfl (fun K hK => ?_) AllReadyT.nil
  obtain ⟨hcq, hcp⟩ := HSX.out
  go_simp
  refine hK.out _ _ (fun h => absurd rfl h) ?_
  clear hK K
  refine wpAnyT_done (by kernel_rfl) ?_ _
  obtain ⟨w1, hw1e⟩ : ∃ w1, w1 = wX.setCell ⟨q, 2, none⟩ (.int .i64 (u2 : Int)) := ⟨_, rfl⟩
  have HW1 : Hid (w1 = wX.setCell ⟨q, 2, none⟩ (.int .i64 (u2 : Int))) := hw1e
  rw [← hw1e]
  have p0 : w1.cell? ⟨p, 0, none⟩ = some (.slice av N cv) := by rw [hw1e, World.cell?_setCell_other _ _ _ _ (by simp)]; exact hcp
  have HR1 : Hid (w1.ownsRow 0 5 1 (.slice av N cv) f.b.length (bc f.b) ∧ w1.heap.size = wX.heap.size ∧ Blk w1 p [.slice av N cv, .int .i64 (sf : Int)] 63) := by
    obtain ⟨hr, hf, hn⟩ := HD.out.2
    have hfd := HDX.out.file f hf
    have hvq := HDX.out.v_q hf
    rw [hn] at hfd hvq
    rw [← HP.out] at hfd
    rw [HVS.out] at hfd hvq
    rw [hw1e]
    refine ⟨row_keep hfd.row (fun k hk => set_other7 _ _ _ (fun e => hvq (by rw [hk, e]))), set_size7 _ _ _, ?_⟩
    rw [HSF.out]
    exact hfd.blk.keep (set_other7 _ _ _ HQ.out)
  clear hw1e hcq hcp hzx HSX
  go_wp2_with fail
  refine (HFI.out _ HR1.out.1).mono ?_
  rintro e w2 ⟨v', rfl, hrow, hloc, hb⟩
  have HX2 : Hid (w2.ownsRow 0 5 1 v' (f.b.take n).length (bc (f.b.take n)) ∧ (∀ k, v'.ownBlock = some k → (Value.slice av N cv).ownBlock = some k ∨ w1.heap.size ≤ k) ∧ Below w1.heap.size w1 w2) := ⟨hrow, hloc, hb⟩
  have hbp : Blk w2 p [.slice av N cv, .int .i64 (sf : Int)] 63 := HR1.out.2.2.keep (hb.block p HR1.out.2.2.lt)
  have p0 : w2.cell? ⟨p, 0, none⟩ = some (.slice av N cv) := hbp.cell 0
  have p1 : w2.cell? ⟨p, 1, none⟩ = some (.int .i64 (sf : Int)) := hbp.cell 1
  have z0 := hbp.free 0
  have z1 := hbp.free 1
  obtain ⟨M, hM⟩ : ∃ M, M = (f.b.take n).length := ⟨_, rfl⟩
  rw [← hM] at hrow
  obtain ⟨a1, c1, rfl, _⟩ := row_slice hrow
  clear hrow hloc hb hbp
  have HFIN : Hid (∀ z : Nat, z = min sf n → ∃ V', DkU ((w2.setCell ⟨p, 0, none⟩ (.slice a1 M c1)).setCell ⟨p, 1, none⟩ (.int .i64 (z : Int))) q { st with fs := Dq.upd s (fun f => { f with b := f.b.take n, safe := min f.safe n }) st.fs } (Gd w ((w2.setCell ⟨p, 0, none⟩ (.slice a1 M c1)).setCell ⟨p, 1, none⟩ (.int .i64 (z : Int))) G) m D P V' u2 ∧ Moved w ((w2.setCell ⟨p, 0, none⟩ (.slice a1 M c1)).setCell ⟨p, 1, none⟩ (.int .i64 (z : Int))) G (Gd w ((w2.setCell ⟨p, 0, none⟩ (.slice a1 M c1)).setCell ⟨p, 1, none⟩ (.int .i64 (z : Int))) G) ∧ ((w2.setCell ⟨p, 0, none⟩ (.slice a1 M c1)).setCell ⟨p, 1, none⟩ (.int .i64 (z : Int))).heap[m]? = w.heap[m]?) := by
    intro z hz
    obtain ⟨hr, hf, hn⟩ := HD.out.2
    have hx := HX2.out
    rw [HW1.out, set_size7] at hx
    have key := HDX.out.cutFile (w2 := w2) (v' := .slice a1 M c1) (u2 := u2) (g := fun f => { f with b := f.b.take n, safe := min f.safe n }) hr hf hn (fun _ => rfl) hx.2.2 hx.1 (fun k hk => by rw [HVS.out]; exact hx.2.1 k hk)
    simp only [] at key
    rw [← HSF.out, ← hz, ← HP.out] at key
    have hsz : wX.heap.size = w.heap.size := by rw [HMX.out.2]
    unfold Gd at key ⊢
    rw [hsz] at key
    rw [HMX.out.2] at key
    exact ⟨_, key.1, HMX.out.1.trans key.2.1, key.2.2⟩
  have HMP : Hid (M = min n f.b.length) := by
    have h : M = min n f.b.length := by rw [hM, List.length_take]
    exact h
  clear hM
  go_wp2
  go_end0
  refine ⟨rfl, ?_⟩
  have e : min (sf : Int) (n : Int) = ((min sf n : Nat) : Int) := by omega
  rw [e]
  exact HFIN.out _ rfl

set_option maxRecDepth 20000 in
set_option maxHeartbeats 4000000 in
theorem keep_any7 {f : Dq.Fl} {s : ByteArray} {p : Nat} {v : Value} (h : DkU w q st G m D P V u) (hn : f.name = s) (hlen : s.size ≤ 1000) (hnone : Dq.get s st.fs = none) (hfs : st.fs.length ≤ 100000)
    (hfd : Fd w p v f) (hap : ∀ g ∈ st.fs, P g.name ≠ p ∧ ∀ k, (V g.name).ownBlock = some k → v.ownBlock ≠ some k) (hG : G p ∧ ∀ k, v.ownBlock = some k → G k) :
    Calls Try.prog 36 #[dptr q, .string s, fptr p] w fun e w' => e = .returned (.tuple #[]) ∧ ∃ D' P' V', DkU w' q { st with fs := Dq.lay f st.fs } G m D' P' V' u ∧ Moved w w' G G ∧ P' s = p ∧ V' s = v := by
  have HD : Hid (DkU w q st G m D P V u ∧ f.name = s ∧ Dq.get s st.fs = none ∧ Fd w p v f ∧ (∀ g ∈ st.fs, P g.name ≠ p ∧ ∀ k, (V g.name).ownBlock = some k → v.ownBlock ≠ some k) ∧ (G p ∧ ∀ k, v.ownBlock = some k → G k)) := ⟨h, hn, hnone, hfd, hap, hG⟩
  have HLN : Hid (s.size ≤ 1000 ∧ st.fs.length ≤ 100000) := ⟨hlen, hfs⟩
  have c0 : w.cell? ⟨q, 0, none⟩ = some (.map (some m)) := h.blk.cell 0
  have HSB : Hid (∀ w', Below w.heap.size w w' → w'.cell? ⟨q, 0, none⟩ = some (.map (some m))) := fun w' hb => Below.kept hb c0
  clear h hn hlen hnone hfs hfd hap hG c0
  go_enter Try.func36, Try.ntmps36
  go_wp2_with fail
  refine wp_region_T (fun w' => w'.cell? ⟨q, 0, none⟩ = some (.map (some m))) 7 (by kernel_rfl) ?_
  have HBX : Hid (Below w.heap.size w w.drew) := (Below.refl _ _).drew
  have HSX : Hid (w.drew.cell? ⟨q, 0, none⟩ = some (.map (some m))) := HSB.out _ HBX.out
  have HSZ : Hid (w.drew.heap.size = w.heap.size) := rfl
  generalize w.drew = wX at *
  refine' take_T (i := 0) (d := 6) (v := _) rfl rfl (by kernel_rfl) (by kernel_rfl) (by kernel_rfl) (by kernel_rfl) (by kernel_rfl) (fun _ _ _ h => h) (Or.inl ⟨by rfl, ?h0⟩) HSX.out ?_
  case h0 => intro w hSw; go_simp; with_reducible rfl
  simp only [List.setIfInBounds_toArray, List.set_cons_zero, List.set_cons_succ]
  refine' take_T (i := 1) (d := 7) (v := _) rfl rfl (by kernel_rfl) (by kernel_rfl) (by kernel_rfl) (by kernel_rfl) (by kernel_rfl) (fun _ _ _ h => h) (Or.inl ⟨by rfl, ?h1⟩) HSX.out ?_
  case h1 => intro w hSw; go_simp; with_reducible rfl
  simp only [List.setIfInBounds_toArray, List.set_cons_zero, List.set_cons_succ]
  refine' take_T (i := 2) (d := 8) (v := _) rfl rfl (by kernel_rfl) (by kernel_rfl) (by kernel_rfl) (by kernel_rfl) (by kernel_rfl) (fun _ _ _ h => h) (Or.inl ⟨by rfl, ?h2⟩) HSX.out ?_
  case h2 => intro w hSw; go_simp; with_reducible rfl
  simp only [List.setIfInBounds_toArray, List.set_cons_zero, List.set_cons_succ]
  refine' take_T (i := 3) (d := 9) (v := _) rfl rfl (by kernel_rfl) (by kernel_rfl) (by kernel_rfl) (by kernel_rfl) (by kernel_rfl) (fun _ _ _ h => h) (Or.inl ⟨by rfl, ?h3⟩) HSX.out ?_
  case h3 => intro w hSw; go_simp; with_reducible rfl
  simp only [List.setIfInBounds_toArray, List.set_cons_zero, List.set_cons_succ]
  refine' take_T (i := 4) (d := 10) (v := _) rfl rfl (by kernel_rfl) (by kernel_rfl) (by kernel_rfl) (by kernel_rfl) (by kernel_rfl) (fun _ _ _ h => h) (Or.inl ⟨by rfl, ?h4⟩) HSX.out ?_
  case h4 => intro w hSw; go_simp; with_reducible rfl
  simp only [List.setIfInBounds_toArray, List.set_cons_zero, List.set_cons_succ]
  refine' take_T (i := 6) (d := 12) (v := _) rfl rfl (by kernel_rfl) (by kernel_rfl) (by kernel_rfl) (by kernel_rfl) (by kernel_rfl) (fun _ _ _ h => h) (Or.inl ⟨by rfl, ?h6⟩) HSX.out ?_
  case h6 => intro w hSw; go_simp; with_reducible rfl
  simp only [List.setIfInBounds_toArray, List.set_cons_zero, List.set_cons_succ]
  refine wpAnyT_ready (rs := [5]) (by kernel_rfl) (by simp) ?_
  refine AllReadyT.cons (o := _) rfl (fun K hK => ?_) AllReadyT.nil
  go_simp
  refine (sclone_any7 s wX (by have := HLN.out.1; omega)).mono ?_
  rintro e w1 ⟨rfl, hb⟩
  have HB1 : Hid (Below w.heap.size w w1) := HBX.out.trans (HSZ.out ▸ hb)
  clear hb
  simp only []
  refine hK.out _ _ (fun _ => HSB.out _ HB1.out) ?_
  clear hK K
  refine wpAnyT_ready (rs := [7]) (by kernel_rfl) (by simp) ?_
  refine AllReadyT.cons (o := _) rfl (fun K hK => ?_) AllReadyT.nil
  have hml : s.size ≤ maxLen := by have := HLN.out.1; unfold maxLen; omega
  obtain ⟨w2, hrun, hown, hturn⟩ := (HD.out.1.below HB1.out).own.store keyed7 Try.underlying44 (by have := HLN.out.2; unfold maxLen; omega) (key_of hml) (fElem_ptr p)
  have HFIN : Hid (∃ D' P' V', DkU w2 q { st with fs := Dq.lay f st.fs } G m D' P' V' u ∧ Moved w w2 G G ∧ P' s = p ∧ V' s = v) := by
    obtain ⟨h, hn, hnone, hfd, hap, hG⟩ := HD.out
    have hu := h.below HB1.out
    have hkp : ∀ k, G k → w1.heap[k]? = w.heap[k]? := fun k hk => HB1.out.block k (h.glt k hk)
    have hfd1 : Fd w1 p v f := hfd.keep (hkp p hG.1) (fun k hk => hkp k (hG.2 k hk))
    obtain ⟨es, clock, hmb, _⟩ := hu.own
    have hpm : p ≠ m := fun e => by
      have := hfd1.blk
      unfold Blk at this
      rw [e, hmb] at this
      cases this
    have hvm : v.ownBlock ≠ some m := fun e => by
      obtain ⟨cur, hc⟩ := row_block hfd1.row e
      rw [hmb] at hc
      cases hc
    obtain ⟨h1, h2⟩ := hu.come hn hml hnone hown hturn hfd1 hap hG hpm hvm
    exact ⟨_, _, _, h1, (Moved.of_below G HB1.out).trans h2, by simp, by simp⟩
  clear hown hturn
  go_simp
  clear hrun
  refine hK.out _ _ (fun h => absurd rfl h) ?_
  clear hK K
  refine wpAnyT_done (by kernel_rfl) ?_ _
  go_wp2
  go_end0
  exact ⟨rfl, HFIN.out⟩
end
end Go.Proofs.Ytmbpkbdaakchiaa
