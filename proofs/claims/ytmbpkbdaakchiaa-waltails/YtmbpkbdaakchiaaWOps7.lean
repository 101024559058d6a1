/- What the landed disk's calls answer: New, Sync, Read, Cut, Drop, On, Size, Power, Lives. -/
import Derived.Test.YtmbpkbdaakchiaaWShort7
namespace Go.Proofs.Ytmbpkbdaakchiaa.Dq
theorem del_upd (s : ByteArray) (g : Fl → Fl) (hg : ∀ x, (g x).name = x.name) (fs : List Fl) : del s (upd s g fs) = del s fs := by
  induction fs with
  | nil => rfl
  | cons a fs ih =>
    have e : upd s g (a :: fs) = (if a.name = s then g a else a) :: upd s g fs := rfl
    rw [e]
    by_cases ha : a.name = s
    · rw [if_pos ha]
      have e1 : del s (g a :: upd s g fs) = del s (upd s g fs) := by simp [del, hg, ha]
      have e2 : del s (a :: fs) = del s fs := by simp [del, ha]
      rw [e1, e2, ih]
    · rw [if_neg ha]
      have e1 : del s (a :: upd s g fs) = a :: del s (upd s g fs) := by simp [del, ha]
      have e2 : del s (a :: fs) = a :: del s fs := by simp [del, ha]
      rw [e1, e2, ih]
theorem upd_mem {s : ByteArray} {g : Fl → Fl} {fs : List Fl} {f : Fl} (hf : f ∈ fs) (hn : f.name = s) : g f ∈ upd s g fs := List.mem_map.2 ⟨f, hf, by simp [hn]⟩
end Go.Proofs.Ytmbpkbdaakchiaa.Dq
namespace Go.Proofs.Ytmbpkbdaakchiaa
open Go.RowKit

section
variable {w w' : World} {q m u : Nat} {st : Dq.St} {G : Nat → Prop} {D : DataW Nat} {P : ByteArray → Nat} {V : ByteArray → Value}

/-- The disk's own cells have changed. -/
theorem DkU.disk {st' : Dq.St} {u' : Nat} (h : DkU w q st G m D P V u) (hfs : st'.fs = st.fs)
    (hq : Blk w' q [.map (some m), .int .i64 (st'.room : Int), .int .i64 (u' : Int), .bool (!st'.off), .int .i64 (st'.lives : Int)] 46) (hm : Moved w w' (fun k => k = q) (fun k => k = q)) : DkU w' q st' G m D P V u' ∧ Moved w w' G G := by
  have hk : ∀ k, G k → k ≠ q → w'.heap[k]? = w.heap[k]? := fun k hk hne => hm.block k (h.glt k hk) hne
  refine ⟨⟨hq, ?_, by rw [hfs]; exact h.has, by rw [hfs]; exact h.at_, by rw [hfs]; exact fun f hf => (h.file f hf).keep (hk _ (h.gf f hf).1 (h.p_q hf)) (fun k e => hk k ((h.gf f hf).2 k e) (fun e2 => h.v_q hf (e2 ▸ e))), by rw [hfs]; exact h.apart, h.gq, h.gm, by rw [hfs]; exact h.gf, fun k e => Nat.lt_of_lt_of_le (h.glt k e) hm.size⟩, ⟨hm.os, hm.tape, hm.output, hm.size, fun k hk hG => hm.block k hk (fun e => hG (by rw [e]; exact h.gq)), fun k hk => Or.inl hk⟩⟩
  obtain ⟨es, clock, hb, r⟩ := h.own
  rw [hfs]
  exact ⟨es, clock, (hk m h.gm h.ne_m).trans hb, r⟩

/-- How many bytes of a file are safe is written. -/
theorem DkU.setSafe {f : Dq.Fl} {g : Dq.Fl → Dq.Fl} {s : ByteArray} (h : DkU w q st G m D P V u) (hr : Dq.Rises st.fs) (hf : f ∈ st.fs) (hn : f.name = s) (hg : ∀ x, (g x).name = x.name) (hb : (g f).b = f.b) :
    let w4 := w.setCell ⟨P s, 1, none⟩ (.int .i64 ((g f).safe : Int))
    DkU w4 q { st with fs := Dq.upd s g st.fs } (Gd w w4 G) m D P (fun x => if x = s then V s else V x) u ∧ Moved w w4 G (Gd w w4 G) ∧ w4.heap[m]? = w.heap[m]? := by
  intro w4
  subst hn
  have hfd := h.file f hf
  have h4 : ∀ k, k ≠ P f.name → w4.heap[k]? = w.heap[k]? := fun k hk => set_other7 _ _ _ hk
  refine h.change hr hf rfl hg (h.blk.keep (h4 q (Ne.symm (h.p_q hf)))) ⟨hfd.blk.set 1 _, by rw [hb]; exact row_keep hfd.row (fun k hk => h4 k (fun e => fd_v_p hfd hfd (e ▸ hk)))⟩ (fun k hk => Or.inl hk) ⟨rfl, rfl, rfl, by show _ ≤ (w.setCell _ _).heap.size; rw [set_size7]; exact Nat.le_refl _, fun k hk hF => h4 k (fun e => hF (Or.inr (Or.inl e))), fun k hk => Or.inl hk⟩

theorem DkU.toD (h : DkU w q st G m D P V u) (e : u = Dq.size st.fs) : DkD w q st G := ⟨m, D, P, V, e ▸ h⟩
theorem DkU.found (h : DkU w q st G m D P V u) {s : ByteArray} {f : Dq.Fl} (hg : Dq.get s st.fs = some f) : f ∈ st.fs ∧ f.name = s ∧ Fd w (P s) (V s) f := by
  obtain ⟨h1, rfl⟩ := Dq.get_some hg
  exact ⟨h1, rfl, h.file f h1⟩
end

/-- What find tells of a file that is there, and of one that is not. -/
theorem dfind_yes {w : World} {q m u : Nat} {st : Dq.St} {G : Nat → Prop} {D : DataW Nat} {P : ByteArray → Nat} {V : ByteArray → Value} {s : ByteArray} (h : DkU w q st G m D P V u) (e0 : Dq.err st s = 0) :
    Calls Try.prog 35 #[dptr q, .string s] w fun e w' => e = .returned (.tuple #[fptr (P s), .int .i64 0]) ∧ Below w.heap.size w w' := by
  have := dfind_any7 s h
  unfold findP at this
  rw [e0] at this
  exact this
theorem dfind_no {w : World} {q m u : Nat} {st : Dq.St} {G : Nat → Prop} {D : DataW Nat} {P : ByteArray → Nat} {V : ByteArray → Value} {s : ByteArray} {z : Int} (h : DkU w q st G m D P V u) (e0 : Dq.err st s = z) (hz : z ≠ 0) :
    Calls Try.prog 35 #[dptr q, .string s] w fun e w' => e = .returned (.tuple #[.pointer none, .int .i64 z]) ∧ Below w.heap.size w w' := by
  have := dfind_any7 s h
  unfold findP at this
  rw [e0, if_neg hz] at this
  exact this

set_option maxRecDepth 20000 in
set_option maxHeartbeats 2000000 in
theorem lives_any7 (q : Nat) (st : Dq.St) (F : Nat → Prop) (w : World) (h : DkD w q st F) :
    Calls Try.prog 26 #[dptr q] w fun e w' => ∃ F', e = .returned (.int .i64 (st.lives : Int)) ∧ DkD w' q st F' ∧ Moved w w' F F' := by
  have HH : Hid (DkD w q st F) := h
  obtain ⟨m, D, P, V, h⟩ := h
  have c4 : w.cell? ⟨q, 4, none⟩ = some (.int .i64 (st.lives : Int)) := h.blk.cell 4
  clear h
  go_enter Try.func26, Try.ntmps26
  go_wp2
  go_ret
  exact ⟨_, rfl, HH.out, Moved.refl _ _⟩


set_option maxRecDepth 20000 in
set_option maxHeartbeats 2000000 in
theorem on_any7 (q : Nat) (st : Dq.St) (F : Nat → Prop) (w : World) (h : DkD w q st F) (hf : Fine st) :
    Calls Try.prog 18 #[dptr q] w fun e w' => ∃ F', e = .returned (.tuple #[]) ∧ DkD w' q (Dq.on st) F' ∧ Moved w w' F F' := by
  obtain ⟨m, D, P, V, h⟩ := h
  have c3 : w.cell? ⟨q, 3, none⟩ = some (.bool (!st.off)) := h.blk.cell 3
  have c4 : w.cell? ⟨q, 4, none⟩ = some (.int .i64 (st.lives : Int)) := h.blk.cell 4
  have z3 := h.blk.free 3
  have z4 := h.blk.free 4
  obtain ⟨l, hl⟩ : ∃ l, l = st.lives := ⟨_, rfl⟩
  have hl1 := hf.2.2
  have HFIN : Hid (∃ F', DkD ((w.setCell ⟨q, 3, none⟩ (.bool true)).setCell ⟨q, 4, none⟩ (.int .i64 ((l + 1 : Nat) : Int))) q (Dq.on st) F' ∧ Moved w ((w.setCell ⟨q, 3, none⟩ (.bool true)).setCell ⟨q, 4, none⟩ (.int .i64 ((l + 1 : Nat) : Int))) F F') := by
    obtain ⟨h1, h2⟩ := h.disk (st' := Dq.on st) (u' := Dq.size st.fs) rfl (by rw [hl]; exact ((h.blk.set 3 (.bool true)).set 4 (.int .i64 ((st.lives + 1 : Nat) : Int)))) (w' := (w.setCell ⟨q, 3, none⟩ (.bool true)).setCell ⟨q, 4, none⟩ (.int .i64 ((l + 1 : Nat) : Int))) ⟨rfl, rfl, rfl, by rw [set_size7, set_size7]; exact Nat.le_refl _, fun k hk hne => by rw [set_other7 _ _ _ hne, set_other7 _ _ _ hne], fun k hk => Or.inl hk⟩
    exact ⟨_, ⟨_, _, _, _, h1⟩, h2⟩
  rw [← hl] at c4 hl1
  have hwr : IntKind.wrap .i64 ((l : Int) + 1) = ((l + 1 : Nat) : Int) := by rw [IntKind.wrap_i64]; omega
  clear h hf hl
  go_enter Try.func18, Try.ntmps18
  go_wp2
  go_end0
  obtain ⟨F', h1, h2⟩ := HFIN.out
  exact ⟨F', rfl, h1, h2⟩

set_option maxRecDepth 20000 in
set_option maxHeartbeats 2000000 in
theorem new_no7 (n : Int) (w : World) (h : n < 64 ∨ 1048576 < n) : Calls Try.prog 9 #[.int .i64 n] w fun e w' => e = .returned (.tuple #[.pointer none, .int .i64 1]) ∧ w' = w := by
  by_cases h1 : n < 64
  · clear h
    go_enter Try.func9, Try.ntmps9
    go_wp2
    go_ret2
    exact ⟨rfl, rfl⟩
  have h2 : 1048576 < n := by omega
  clear h
  go_enter Try.func9, Try.ntmps9
  go_wp2
  go_ret2
  exact ⟨rfl, rfl⟩

set_option maxRecDepth 20000 in
set_option maxHeartbeats 2000000 in
theorem new_yes7 (n : Int) (w : World) (h1 : ¬ n < 64) (h2 : ¬ 1048576 < n) : Calls Try.prog 9 #[.int .i64 n] w fun e w' => e = .returned (.tuple #[dptr (w.heap.size + 1), .int .i64 0]) ∧ w' = (w.alloc (.map #[] 0)).alloc (.cells #[.map (some w.heap.size), .int .i64 n, .int .i64 0, .bool true, .int .i64 1] 46) := by
  have hmm := @run_makeMap Try.prog
  go_enter Try.func9, Try.ntmps9
  go_wp2
  go_ret2
  exact ⟨rfl, rfl⟩

theorem new_any7 (n : Int) (w : World) : Calls Try.prog 9 #[.int .i64 n] w fun e w' => Below w.heap.size w w' ∧
    if n < 64 ∨ 1048576 < n then e = .returned (.tuple #[.pointer none, .int .i64 1]) else ∃ q F, e = .returned (.tuple #[dptr q, .int .i64 0]) ∧ DkD w' q ⟨n.toNat, [], false, 1⟩ F ∧ ∀ k, F k → w.heap.size ≤ k := by
  by_cases h : n < 64 ∨ 1048576 < n
  · refine (new_no7 n w h).mono ?_
    rintro e w' ⟨rfl, rfl⟩
    rw [if_pos h]
    exact ⟨Below.refl _ _, rfl⟩
  · refine (new_yes7 n w (by omega) (by omega)).mono ?_
    rintro e w' ⟨rfl, rfl⟩
    rw [if_neg h]
    have hb1 : Below w.heap.size w (w.alloc (.map #[] 0)) := (Below.refl _ w).alloc (Nat.le_refl _) _
    have hb2 := hb1.alloc hb1.size (.cells #[.map (some w.heap.size), .int .i64 n, .int .i64 0, .bool true, .int .i64 1] 46)
    have hs1 : (w.alloc (.map #[] 0)).heap.size = w.heap.size + 1 := by simp
    obtain ⟨w1, hw1⟩ : ∃ w1, w1 = w.alloc (.map #[] 0) := ⟨_, rfl⟩
    have hown : w1.ownsMap Try.prog 9 fElem w.heap.size 0 (.map []) := by rw [hw1]; exact World.ownsMap_made w _ _ _
    rw [← hw1] at hb1 hb2 hs1 ⊢
    refine ⟨hb2, w.heap.size + 1, fun k => k = w.heap.size ∨ k = w.heap.size + 1, rfl, ⟨w.heap.size, .map [], fun _ => 0, fun _ => .slice none 0 0, ⟨?_, hown.alloc _, fun kl => ?_, fun f hf => (by cases hf), fun f hf => (by cases hf), fun f hf => (by cases hf), Or.inr rfl, Or.inl rfl, fun f hf => (by cases hf), fun k hk => ?_⟩⟩, fun k hk => by omega⟩
    · have e : ((n.toNat : Nat) : Int) = n := by omega
      have := Blk.made w1 [.map (some w.heap.size), .int .i64 n, .int .i64 0, .bool true, .int .i64 1] 46
      rw [hs1] at this
      show Blk _ _ [_, .int .i64 ((n.toNat : Nat) : Int), _, _, _] _
      rw [e]
      exact this
    · constructor
      · intro h
        cases h
      · rintro ⟨f, hf, _⟩
        cases hf
    · have h2 : (w1.alloc (.cells #[.map (some w.heap.size), .int .i64 n, .int .i64 0, .bool true, .int .i64 1] 46)).heap.size = w1.heap.size + 1 := by simp
      rw [h2]
      omega

section
variable {w : World} {q m u : Nat} {st : Dq.St} {G : Nat → Prop} {D : DataW Nat} {P : ByteArray → Nat} {V : ByteArray → Value}

set_option maxRecDepth 20000 in
set_option maxHeartbeats 2000000 in
theorem sync_any7 (q : Nat) (st : Dq.St) (F : Nat → Prop) (s : ByteArray) (w : World) (h : DkD w q st F) (hf : Fine st) :
    Calls Try.prog 34 #[dptr q, .string s] w fun e w' => ∃ F', e = .returned (.int .i64 (Dq.sync st s).1) ∧ DkD w' q (Dq.sync st s).2 F' ∧ Moved w w' F F' := by
  obtain ⟨m, D, P, V, h⟩ := h
  have HD : Hid (DkU w q st F m D P V (Dq.size st.fs) ∧ Fine st) := ⟨h, hf⟩
  by_cases e0 : Dq.err st s = 0
  · have HX : Hid (Dq.sync st s = (0, { st with fs := Dq.upd s (fun f => { f with safe := f.b.length }) st.fs })) := by
      have h : Dq.sync st s = (0, { st with fs := Dq.upd s (fun f => { f with safe := f.b.length }) st.fs }) := by unfold Dq.sync; rw [if_pos e0]
      exact h
    rw [HX.out]
    obtain ⟨f, hg⟩ : ∃ f, Dq.get s st.fs = some f := by
      rcases Dq.err_cases st s with ⟨e, _⟩ | ⟨e, _⟩ | ⟨e, _⟩ | ⟨_, _, _, h⟩
      · rw [e] at e0; cases e0
      · rw [e] at e0; cases e0
      · rw [e] at e0; cases e0
      · exact h
    have HG : Hid (Dq.get s st.fs = some f) := hg
    have HC : Hid (Calls Try.prog 35 #[dptr q, .string s] w fun e w' => e = .returned (.tuple #[fptr (P s), .int .i64 0]) ∧ Below w.heap.size w w') := dfind_yes h e0
    obtain ⟨p, hp⟩ : ∃ p, p = P s := ⟨_, rfl⟩
    have HP : Hid (p = P s) := hp
    rw [← hp] at HC
    clear h hf e0 hg hp
    go_enter Try.func34, Try.ntmps34
    go_wp2_with fail
    refine HC.out.mono ?_
    rintro e w1 ⟨rfl, hb⟩
    have HB : Hid (Below w.heap.size w w1 ∧ DkU w1 q st F m D P V (Dq.size st.fs)) := ⟨hb, HD.out.1.below hb⟩
    obtain ⟨hf1, hf2, hfd⟩ := HB.out.2.found HG.out
    rw [← HP.out] at hfd
    obtain ⟨av, cv, hvs, hcv⟩ := row_slice hfd.row
    have p0 : w1.cell? ⟨p, 0, none⟩ = some (.slice av f.b.length cv) := by rw [← hvs]; exact hfd.blk.cell 0
    have p1 : w1.cell? ⟨p, 1, none⟩ = some (.int .i64 (f.safe : Int)) := hfd.blk.cell 1
    have z1 := hfd.blk.free 1
    have HFIN : Hid (∃ F', DkD (w1.setCell ⟨p, 1, none⟩ (.int .i64 (f.b.length : Int))) q { st with fs := Dq.upd s (fun f => { f with safe := f.b.length }) st.fs } F' ∧ Moved w (w1.setCell ⟨p, 1, none⟩ (.int .i64 (f.b.length : Int))) F F') := by
      have key := HB.out.2.setSafe (g := fun f => { f with safe := f.b.length }) HD.out.2.1.rises hf1 hf2 (fun _ => rfl) rfl
      simp only [] at key
      rw [← HP.out] at key
      have hsz := Dq.size_upd (g := fun f => { f with safe := f.b.length }) HD.out.2.1.rises HG.out
      simp only [] at hsz
      exact ⟨_, key.1.toD (by simp only []; omega), (Moved.of_below F HB.out.1).trans key.2.1⟩
    clear hb hf1 hf2 hfd hvs
    obtain ⟨N, hN⟩ : ∃ N, N = f.b.length := ⟨_, rfl⟩
    rw [← hN] at p0 HFIN
    clear hN
    go_wp2
    go_ret
    obtain ⟨F', h1, h2⟩ := HFIN.out
    exact ⟨F', rfl, h1, h2⟩
  · have HX : Hid (Dq.sync st s = (Dq.err st s, st)) := by
      have h : Dq.sync st s = (Dq.err st s, st) := by unfold Dq.sync; rw [if_neg e0]
      exact h
    rw [HX.out]
    obtain ⟨z, hz⟩ : ∃ z, z = Dq.err st s := ⟨_, rfl⟩
    have HC : Hid (Calls Try.prog 35 #[dptr q, .string s] w fun e w' => e = .returned (.tuple #[.pointer none, .int .i64 z]) ∧ Below w.heap.size w w') := dfind_no h hz.symm (hz ▸ e0)
    rw [← hz] at e0 ⊢
    clear h hf hz
    go_enter Try.func34, Try.ntmps34
    go_wp2_with fail
    refine HC.out.mono ?_
    rintro e w1 ⟨rfl, hb⟩
    have HB : Hid (Below w.heap.size w w1 ∧ DkU w1 q st F m D P V (Dq.size st.fs)) := ⟨hb, HD.out.1.below hb⟩
    clear hb
    go_wp2
    go_ret
    exact ⟨F, rfl, ⟨_, _, _, _, HB.out.2⟩, Moved.of_below F HB.out.1⟩
end
end Go.Proofs.Ytmbpkbdaakchiaa
