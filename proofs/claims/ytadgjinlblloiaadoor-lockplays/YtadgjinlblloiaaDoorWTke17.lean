/- What the landed Take does: all or none. -/
import Derived.Test.YtadgjinlblloiaaDoorWFre17
import Derived.Test.YtadgjinlblloiaaDoorWBlk17
namespace Go.Proofs.YtadgjinlblloiaaDoor
open Go.RowKit

/-- The first that is so, by its place. -/
def InF17 (ps : List ByteArray) (f : ByteArray → Bool) (r : Int) : Prop := (r = -1 ∧ ps.find? f = none) ∨ ∃ k p, r = ((k : Nat) : Int) ∧ ps[k]? = some p ∧ ps.find? f = some p
theorem find_at17 {ps : List ByteArray} {f : ByteArray → Bool} {k : Nat} {p : ByteArray} (h : ps[k]? = some p) (hf : f p = true) (hy : ∀ y ∈ ps.take k, f y = false) : ps.find? f = some p := by
  have hlt := (List.getElem?_eq_some_iff.1 h).1
  have e : ps = ps.take k ++ p :: ps.drop (k + 1) := by
    have h2 := (List.getElem?_eq_some_iff.1 h).2
    rw [← h2, ← List.drop_eq_getElem_cons hlt, List.take_append_drop]
  rw [e, List.find?_append, List.find?_eq_none.2 (fun y hm => by rw [hy y hm]; simp), List.find?_cons, hf]
  rfl
section
variable {w : World} {q m : Nat} {s : Lk.St} {F : Nat → Prop}
/-- What the closure of Take answers. -/
theorem closure_any17 (h : LLk w q s F) (hf : Lk.Fine m s) (hS : Pa.Std w) (who : Int) (hw : I64 who) (p : ByteArray) (hp : p.size ≤ maxLen) (b1 b2 : Nat) (h1 : w.cell? ⟨b1, 0, none⟩ = some (dptr q)) (h2 : w.cell? ⟨b2, 0, none⟩ = some (.int .i64 who)) :
    Calls Tryd.prog 25 #[.string p, .pointer (some ⟨b1, 0, none⟩), .pointer (some ⟨b2, 0, none⟩)] w fun e w' => e = .returned (.bool (Lk.blocks s who p)) ∧ Below w.heap.size w w' := by
  obtain ⟨a, b, c, d, fh, fo, fu, fs, V, h, hu, hs⟩ := h
  have HH : Hid (LkU w q s s F a b c d fh fo fu fs V ∧ IsU s fu ∧ IsS s fs ∧ Lk.Fine m s ∧ Pa.Std w ∧ I64 who ∧ p.size ≤ maxLen) := ⟨h, hu, hs, hf, hS, hw, hp⟩
  clear h hu hs hf hS hw hp
  go_enter Tryd.func25, Tryd.ntmps25
  go_wp2_with fail
  refine (blocks_any17 HH.out.1 HH.out.2.1 HH.out.2.2.1 HH.out.2.2.2.1 HH.out.2.2.2.2.1 who HH.out.2.2.2.2.2.1 p HH.out.2.2.2.2.2.2).mono ?_
  rintro e w2 ⟨rfl, hb⟩
  have HB : Hid (Below w.heap.size w w2) := hb
  clear hb
  go_wp2
  go_ret
  exact ⟨rfl, HB.out⟩
end
set_option maxRecDepth 20000 in
set_option maxHeartbeats 4000000 in
theorem index_none17 (v : Value) (ps : List ByteArray) (f : ByteArray → Bool) (w : World) (hv : Ss w v ps) (hl : ps.length ≤ 1000)
    (hc : ∀ x ∈ ps, ∀ w', Below w.heap.size w w' → Calls Tryd.prog 24 #[.string x] w' fun e w2 => e = .returned (.bool (f x)) ∧ Below w'.heap.size w' w2) :
    Calls Tryd.prog 23 #[v, (Value.func (.func 24) #[] #[])] w fun e w' => ∃ r, e = .returned (.int .i64 r) ∧ InF17 ps f r ∧ Below w.heap.size w w' := by
  obtain ⟨av, N, c, rfl, hN, hcs⟩ := hv
  have H0 : Hid (N = ps.length ∧ (∀ (j : Nat) x, ps[j]? = some x → ∃ g o, av = some ⟨g, o, none⟩ ∧ w.cell? ⟨g, o + j, none⟩ = some (.string x)) ∧ ∀ x ∈ ps, ∀ w', Below w.heap.size w w' → Calls Tryd.prog 24 #[.string x] w' fun e w2 => e = .returned (.bool (f x)) ∧ Below w'.heap.size w' w2) := ⟨hN, hcs, hc⟩
  have hNm : N ≤ 1000 := by omega
  clear hN hcs hc hl
  go_enter Tryd.func23, Tryd.ntmps23
  go_wp2
  go_loopw [8] (fun i wx => ∃ k : Nat, k ≤ N ∧ i = .int .i64 (k : Int) ∧ Below w.heap.size w wx ∧ ∀ y ∈ ps.take k, f y = false) (fun i _ => N - (intOf i).toNat)
  case atStart => exact ⟨0, Nat.zero_le _, rfl, Below.refl _ _, fun y hy => by simp at hy⟩
  case round =>
    obtain ⟨k, hk, rfl, hb, hy⟩ := hrel
    have HW : Hid (Below w.heap.size w wr ∧ ∀ y ∈ ps.take k, f y = false) := ⟨hb, hy⟩
    clear hb hy
    by_cases hlt : k < N
    · have hlt' : (k : Int) < (N : Int) := by omega
      have hk0 : (0 : Int) ≤ (k : Int) := by omega
      have hwk : IntKind.wrap .i64 ((k : Int) + 1) = (k : Int) + 1 := by rw [IntKind.wrap_i64]; omega
      obtain ⟨x, hx⟩ : ∃ x, ps[k]? = some x := ⟨ps[k]'(by rw [← H0.out.1]; exact hlt), List.getElem?_eq_getElem _⟩
      have HX : Hid (ps[k]? = some x) := hx
      obtain ⟨g, o, rfl, c0⟩ := H0.out.2.1 k x hx
      have c1 : wr.cell? ⟨g, o + k, none⟩ = some (.string x) := Below.kept HW.out.1 c0
      clear hx c0
      go_wp2_with fail
      refine (H0.out.2.2 x (List.mem_of_getElem? HX.out) wr HW.out.1).mono ?_
      rintro e w2 ⟨rfl, hb2⟩
      have H2 : Hid (Below w.heap.size w w2) := HW.out.1.trans (hb2.mono HW.out.1.size)
      clear hb2 c1
      cases hs : f x with
      | true =>
        have HR : Hid (InF17 ps f (k : Int)) := Or.inr ⟨k, x, rfl, HX.out, find_at17 HX.out hs HW.out.2⟩
        clear hs
        go_wp2
        go_ret
        exact ⟨_, rfl, HR.out, H2.out⟩
      | false =>
        have HR : Hid (∀ y ∈ ps.take (k + 1), f y = false) := fun y hy => by
          rw [List.take_add_one, HX.out] at hy
          rcases List.mem_append.1 hy with hy | hy
          · exact HW.out.2 y hy
          · simp at hy
            rw [hy]
            exact hs
        clear hs
        go_wp2
        go_roundw
        case rel => exact ⟨k + 1, by omega, by go_num, H2.out, HR.out⟩
        case measure => simp [intOf]; omega
    · have hlt' : ¬ (k : Int) < (N : Int) := by omega
      have HR : Hid (InF17 ps f (-1)) := Or.inl ⟨rfl, List.find?_eq_none.2 fun y hy => by rw [HW.out.2 y (by rw [List.take_of_length_le (by rw [← H0.out.1]; omega)]; exact hy)]; simp⟩
      go_wp2
      go_ret
      exact ⟨_, rfl, HR.out, HW.out.1⟩
set_option maxRecDepth 20000 in
set_option maxHeartbeats 4000000 in
theorem index_blk17 (v : Value) (ps : List ByteArray) (f : ByteArray → Bool) (w : World) (hv : Ss w v ps) (hl : ps.length ≤ 1000) (b1 b2 : Nat)
    (hc : ∀ x ∈ ps, ∀ w', Below w.heap.size w w' → Calls Tryd.prog 25 #[.string x, .pointer (some ⟨b1, 0, none⟩), .pointer (some ⟨b2, 0, none⟩)] w' fun e w2 => e = .returned (.bool (f x)) ∧ Below w'.heap.size w' w2) :
    Calls Tryd.prog 23 #[v, (Value.func (.func 25) #[] #[.pointer (some ⟨b1, 0, none⟩), .pointer (some ⟨b2, 0, none⟩)])] w fun e w' => ∃ r, e = .returned (.int .i64 r) ∧ InF17 ps f r ∧ Below w.heap.size w w' := by
  obtain ⟨av, N, c, rfl, hN, hcs⟩ := hv
  have H0 : Hid (N = ps.length ∧ (∀ (j : Nat) x, ps[j]? = some x → ∃ g o, av = some ⟨g, o, none⟩ ∧ w.cell? ⟨g, o + j, none⟩ = some (.string x)) ∧ ∀ x ∈ ps, ∀ w', Below w.heap.size w w' → Calls Tryd.prog 25 #[.string x, .pointer (some ⟨b1, 0, none⟩), .pointer (some ⟨b2, 0, none⟩)] w' fun e w2 => e = .returned (.bool (f x)) ∧ Below w'.heap.size w' w2) := ⟨hN, hcs, hc⟩
  have hNm : N ≤ 1000 := by omega
  clear hN hcs hc hl
  go_enter Tryd.func23, Tryd.ntmps23
  go_wp2
  go_loopw [8] (fun i wx => ∃ k : Nat, k ≤ N ∧ i = .int .i64 (k : Int) ∧ Below w.heap.size w wx ∧ ∀ y ∈ ps.take k, f y = false) (fun i _ => N - (intOf i).toNat)
  case atStart => exact ⟨0, Nat.zero_le _, rfl, Below.refl _ _, fun y hy => by simp at hy⟩
  case round =>
    obtain ⟨k, hk, rfl, hb, hy⟩ := hrel
    have HW : Hid (Below w.heap.size w wr ∧ ∀ y ∈ ps.take k, f y = false) := ⟨hb, hy⟩
    clear hb hy
    by_cases hlt : k < N
    · have hlt' : (k : Int) < (N : Int) := by omega
      have hk0 : (0 : Int) ≤ (k : Int) := by omega
      have hwk : IntKind.wrap .i64 ((k : Int) + 1) = (k : Int) + 1 := by rw [IntKind.wrap_i64]; omega
      obtain ⟨x, hx⟩ : ∃ x, ps[k]? = some x := ⟨ps[k]'(by rw [← H0.out.1]; exact hlt), List.getElem?_eq_getElem _⟩
      have HX : Hid (ps[k]? = some x) := hx
      obtain ⟨g, o, rfl, c0⟩ := H0.out.2.1 k x hx
      have c1 : wr.cell? ⟨g, o + k, none⟩ = some (.string x) := Below.kept HW.out.1 c0
      clear hx c0
      go_wp2_with fail
      refine (H0.out.2.2 x (List.mem_of_getElem? HX.out) wr HW.out.1).mono ?_
      rintro e w2 ⟨rfl, hb2⟩
      have H2 : Hid (Below w.heap.size w w2) := HW.out.1.trans (hb2.mono HW.out.1.size)
      clear hb2 c1
      cases hs : f x with
      | true =>
        have HR : Hid (InF17 ps f (k : Int)) := Or.inr ⟨k, x, rfl, HX.out, find_at17 HX.out hs HW.out.2⟩
        clear hs
        go_wp2
        go_ret
        exact ⟨_, rfl, HR.out, H2.out⟩
      | false =>
        have HR : Hid (∀ y ∈ ps.take (k + 1), f y = false) := fun y hy => by
          rw [List.take_add_one, HX.out] at hy
          rcases List.mem_append.1 hy with hy | hy
          · exact HW.out.2 y hy
          · simp at hy
            rw [hy]
            exact hs
        clear hs
        go_wp2
        go_roundw
        case rel => exact ⟨k + 1, by omega, by go_num, H2.out, HR.out⟩
        case measure => simp [intOf]; omega
    · have hlt' : ¬ (k : Int) < (N : Int) := by omega
      have HR : Hid (InF17 ps f (-1)) := Or.inl ⟨rfl, List.find?_eq_none.2 fun y hy => by rw [HW.out.2 y (by rw [List.take_of_length_le (by rw [← H0.out.1]; omega)]; exact hy)]; simp⟩
      go_wp2
      go_ret
      exact ⟨_, rfl, HR.out, HW.out.1⟩
theorem Ss.moved17 {w w' : World} {F F' : Nat → Prop} {v : Value} {ps : List ByteArray} (h : Ss w v ps) (hm : Moved w w' F F') (ha : ∀ k, v.ownBlock = some k → ps ≠ [] → ¬ F k) : Ss w' v ps := by
  obtain ⟨av, k, c, rfl, hk, hc⟩ := h
  refine ⟨av, k, c, rfl, hk, fun j x hx => ?_⟩
  obtain ⟨g, o, rfl, hcell⟩ := hc j x hx
  refine ⟨g, o, rfl, ?_⟩
  have hlt := World.block_lt_of_cell? w _ hcell
  exact (World.cell?_of_block (hm.block g hlt (ha g rfl (fun e => by rw [e] at hx; simp at hx)))).trans hcell
/-- Take, once all are free for who. -/
structure Tk17 (w0 w : World) (q : Nat) (s : Lk.St) (F F' : Nat → Prop) (b1 b2 : Nat) (who : Int) (v : Value) (ps : List ByteArray) : Prop where
  lk : LLk w q s F'
  mv : Moved w0 w F F'
  lo : ∀ k, F' k → 3 ≤ k
  std : Pa.Std w
  c1 : w.cell? ⟨b1, 0, none⟩ = some (dptr q)
  c2 : w.cell? ⟨b2, 0, none⟩ = some (.int .i64 who)
  n1 : ¬ F' b1
  n2 : ¬ F' b2
  ss : Ss w v ps
  off : ∀ k, v.ownBlock = some k → ps ≠ [] → ¬ F' k
theorem Ss.lt17 {w : World} {v : Value} {ps : List ByteArray} (h : Ss w v ps) {k : Nat} (hk : v.ownBlock = some k) (hne : ps ≠ []) : k < w.heap.size := by
  obtain ⟨av, n, c, rfl, hn, hc⟩ := h
  obtain ⟨x, hx⟩ : ∃ x, ps[0]? = some x := ⟨ps[0]'(List.length_pos_iff.2 hne), List.getElem?_eq_getElem _⟩
  obtain ⟨g, o, rfl, hcell⟩ := hc 0 x hx
  simp only [Value.ownBlock, Option.some.injEq] at hk
  subst hk
  exact World.block_lt_of_cell? w _ hcell
theorem Tk17.below {w0 w w' : World} {q b1 b2 : Nat} {s : Lk.St} {F F' : Nat → Prop} {who : Int} {v : Value} {ps : List ByteArray} (h : Tk17 w0 w q s F F' b1 b2 who v ps) (hlt : ∀ k, F' k → k < w.heap.size) (hb : Below w.heap.size w w') : Tk17 w0 w' q s F F' b1 b2 who v ps :=
  ⟨llk_keep h.lk fun k hk => hb.block k (hlt k hk), h.mv.trans (Moved.of_below F' hb), h.lo, h.std.below hb, Below.kept hb h.c1, Below.kept hb h.c2, h.n1, h.n2, h.ss.below hb, h.off⟩
theorem llk_lt {w : World} {q k : Nat} {s : Lk.St} {F : Nat → Prop} (h : LLk w q s F) (hk : F k) : k < w.heap.size := by
  obtain ⟨a, b, c, d, fh, fo, fu, fs, V, h, _⟩ := h
  exact h.flt k hk
theorem Tk17.moved {w0 w w' : World} {q b1 b2 : Nat} {s s2 : Lk.St} {F F' F2 : Nat → Prop} {who : Int} {v : Value} {ps : List ByteArray} (h : Tk17 w0 w q s F F' b1 b2 who v ps) (hl : LLk w' q s2 F2) (hm : Moved w w' F' F2) : Tk17 w0 w' q s2 F F2 b1 b2 who v ps := by
  have l1 := World.block_lt_of_cell? w _ h.c1
  have l2 := World.block_lt_of_cell? w _ h.c2
  simp only [] at l1 l2
  have hsz := h.std.size
  refine ⟨hl, h.mv.trans hm, fun k hk => ?_, h.std.moved17 hm h.lo, (World.cell?_of_block (hm.block b1 l1 h.n1)).trans h.c1, (World.cell?_of_block (hm.block b2 l2 h.n2)).trans h.c2, fun e => ?_, fun e => ?_, h.ss.moved17 hm h.off, fun k hk hne e => ?_⟩
  · rcases hm.sub k hk with h1 | h1
    · exact h.lo k h1
    · omega
  · rcases hm.sub b1 e with h1 | h1
    · exact h.n1 h1
    · omega
  · rcases hm.sub b2 e with h1 | h1
    · exact h.n2 h1
    · omega
  · rcases hm.sub k e with h1 | h1
    · exact h.off k hk hne h1
    · have := h.ss.lt17 hk hne
      omega
set_option maxRecDepth 20000 in
set_option maxHeartbeats 8000000 in
theorem take_any17 {w : World} {q m : Nat} {s : Lk.St} {F : Nat → Prop} (h : LLk w q s F) (hf : Lk.Fine m s) (hm : m ≤ 1000) (hlo : ∀ k, F k → 3 ≤ k) (hS : Pa.Std w) (who : Int) (hw : I64 who) (v : Value) (ps : List ByteArray) (hv : Ss w v ps) (hl : ps.length ≤ 10) (hp : ∀ p ∈ ps, p.size ≤ maxLen) (hoff : ∀ k, v.ownBlock = some k → ps ≠ [] → ¬ F k) :
    Calls Tryd.prog 10 #[dptr q, .int .i64 who, v] w fun e w' => ∃ F', e = .returned (.tuple #[.string (Lk.take s who ps).1, .bool (Lk.take s who ps).2.1]) ∧ LLk w' q (Lk.take s who ps).2.2 F' ∧ Moved w w' F F' := by
  obtain ⟨R, hR⟩ : ∃ R, R = Lk.take s who ps := ⟨_, rfl⟩
  rw [← hR]
  have HR : Hid (R = Lk.take s who ps) := hR
  have HH : Hid (LLk w q s F ∧ Lk.Fine m s ∧ m ≤ 1000 ∧ (∀ k, F k → 3 ≤ k) ∧ Pa.Std w ∧ I64 who ∧ Ss w v ps ∧ ps.length ≤ 10 ∧ (∀ p ∈ ps, p.size ≤ maxLen) ∧ (∀ k, v.ownBlock = some k → ps ≠ [] → ¬ F k)) := ⟨h, hf, hm, hlo, hS, hw, hv, hl, hp, hoff⟩
  obtain ⟨av, N, c, rfl, hN, hcs⟩ := hv
  have HN : Hid (N = ps.length) := hN
  have hN10 : N ≤ 10 := by omega
  clear h hf hm hlo hS hw hl hp hoff hN hcs hR
  go_enter Tryd.func10, Tryd.ntmps10
  go_upto_region 1 with fail
  obtain ⟨b1, hb1⟩ : ∃ b, b = w.heap.size := ⟨_, rfl⟩
  rw [← hb1]
  obtain ⟨b2, hb2⟩ : ∃ b, b = b1 + 1 := ⟨_, rfl⟩
  rw [← hb2]
  have H1 : Hid (Tk17 w ((w.alloc (.cells #[dptr q] 23)).alloc (.cells #[.int .i64 who] 2)) q s F F b1 b2 who (.slice av N c) ps) := by
    have hba := (Below.refl w.heap.size w).alloc (Nat.le_refl _) (.cells #[dptr q] 23)
    obtain ⟨wa, hwa⟩ : ∃ z, z = w.alloc (.cells #[dptr q] 23) := ⟨_, rfl⟩
    have hs : wa.heap.size = b2 := by rw [hwa, hb2, hb1]; simp
    have ca : Cb wa b1 [dptr q] 23 := by rw [hwa, hb1]; exact Cb.made w _ _
    rw [← hwa] at hba ⊢
    have hbb := hba.alloc hba.size (.cells #[.int .i64 who] 2)
    have hbc := (Below.refl wa.heap.size wa).alloc (Nat.le_refl _) (.cells #[.int .i64 who] 2)
    have cb : Cb (wa.alloc (.cells #[.int .i64 who] 2)) b2 [.int .i64 who] 2 := by rw [← hs]; exact Cb.made wa _ _
    have hlt : ∀ k, F k → k < w.heap.size := fun k hk => llk_lt HH.out.1 hk
    exact ⟨llk_keep HH.out.1 fun k hk => hbb.block k (hlt k hk), Moved.of_below F hbb, HH.out.2.2.2.1, HH.out.2.2.2.2.1.below hbb, (ca.below hbc).cell 0, cb.cell 0, fun e => by have := hlt b1 e; omega, fun e => by have := hlt b2 e; omega, HH.out.2.2.2.2.2.2.1.below hbb, HH.out.2.2.2.2.2.2.2.2.2⟩
  clear hb1 hb2
  generalize (w.alloc (.cells #[dptr q] 23)).alloc (.cells #[.int .i64 who] 2) = w1 at *
  go_wp2_with fail
  refine (index_none17 _ ps (fun p => !Lk.good p) w1 H1.out.ss (by have := HH.out.2.2.2.2.2.2.2.1; omega) (fun x hx w' hb => isNone_any17 x w' (H1.out.std.below hb) (HH.out.2.2.2.2.2.2.2.2.1 x hx))).mono ?_
  rintro e w2 ⟨r, rfl, hr, hb⟩
  have H2 : Hid (Tk17 w w2 q s F F b1 b2 who (.slice av N c) ps) := H1.out.below (fun k hk => llk_lt H1.out.lk hk) hb
  clear hb H1
  rcases hr with ⟨rfl, hfind⟩ | ⟨k, p, rfl, hk, hfind⟩
  · have HG : Hid (ps.find? (fun p => !Lk.good p) = none) := hfind
    clear hfind
    go_wp2_with fail
    refine (index_blk17 _ ps (Lk.blocks s who) w2 H2.out.ss (by have := HH.out.2.2.2.2.2.2.2.1; omega) b1 b2 (fun x hx w' hb => closure_any17 (llk_keep H2.out.lk fun k hk => hb.block k (llk_lt H2.out.lk hk)) HH.out.2.1 (H2.out.std.below hb) who HH.out.2.2.2.2.2.1 x (HH.out.2.2.2.2.2.2.2.2.1 x hx) b1 b2 (Below.kept hb H2.out.c1) (Below.kept hb H2.out.c2))).mono ?_
    rintro e w3 ⟨r, rfl, hr, hb⟩
    have H3 : Hid (Tk17 w w3 q s F F b1 b2 who (.slice av N c) ps) := H2.out.below (fun k hk => llk_lt H2.out.lk hk) hb
    clear hb H2
    rcases hr with ⟨rfl, hfind⟩ | ⟨k, p, rfl, hk, hfind⟩
    · have hfa : Lk.faulty s who ps = none := by unfold Lk.faulty; rw [HG.out]; exact hfind
      have HT : Hid (R = (⟨#[]⟩, true, Lk.adds who s ps) ∧ (∀ p ∈ ps, Lk.good p = true) ∧ ∀ p ∈ ps, Lk.blocks s who p = false) := ⟨by rw [HR.out]; exact Lk.take_yes hfa, Lk.faulty_none hfa⟩
      clear hfa hfind HG
      go_wp2
      go_loopw [31] (fun i wx => ∃ (k : Nat) (F' : Nat → Prop), k ≤ N ∧ i = .int .i64 (k : Int) ∧ Tk17 w wx q (Lk.adds who s (ps.take k)) F F' b1 b2 who (.slice av N c) ps) (fun i _ => N - (intOf i).toNat)
      case atStart => exact ⟨0, F, Nat.zero_le _, rfl, H3.out⟩
      case round =>
        obtain ⟨k, F1, hk, rfl, htk⟩ := hrel
        have H4 : Hid (Tk17 w wr q (Lk.adds who s (ps.take k)) F F1 b1 b2 who (.slice av N c) ps) := htk
        clear htk H3
        by_cases hlt : k < N
        · have hlt' : (k : Int) < (N : Int) := by omega
          have hk0 : (0 : Int) ≤ (k : Int) := by omega
          have hwk : IntKind.wrap .i64 ((k : Int) + 1) = (k : Int) + 1 := by rw [IntKind.wrap_i64]; omega
          obtain ⟨p, hp⟩ : ∃ p, ps[k]? = some p := ⟨ps[k]'(by rw [← HN.out]; exact hlt), List.getElem?_eq_getElem _⟩
          obtain ⟨g, o, rfl, c0⟩ := (show ∃ g o, av = some ⟨g, o, none⟩ ∧ wr.cell? ⟨g, o + k, none⟩ = some (.string p) by
            obtain ⟨av2, k2, cc, e, _, hcs⟩ := H4.out.ss
            simp only [Value.slice.injEq] at e
            rw [e.1]
            exact hcs k p hp)
          have d1 := H4.out.c1
          have d2 := H4.out.c2
          obtain ⟨s1, hs1⟩ : ∃ s1, s1 = Lk.adds who s (ps.take k) := ⟨_, rfl⟩
          have hfin : (s1 : Lk.St).length ≤ 1999 := by
            have h1 := (HH.out.2.1.adds HH.out.2.2.2.2.2.1 (ps := ps.take k) (fun x hx => HT.out.2.1 x (List.mem_of_mem_take hx)) (fun x hx => HT.out.2.2 x (List.mem_of_mem_take hx))).len
            rw [← hs1, List.length_take] at h1
            have := HH.out.2.2.1
            have := HH.out.2.2.2.2.2.2.2.1
            omega
          have HX : Hid ((s1 : Lk.St).length ≤ 1999 ∧ Lk.good p = true ∧ Lk.adds who s (ps.take (k + 1)) = Lk.add who s1 p) := ⟨hfin, HT.out.2.1 p (List.mem_of_getElem? hp), by rw [List.take_add_one, hp, hs1]; unfold Lk.adds; rw [List.foldl_append]; rfl⟩
          rw [← hs1] at H4
          clear hs1 hfin hp
          go_wp2_with fail
          refine (take_one17 H4.out.lk HX.out.1 H4.out.lo H4.out.std who HH.out.2.2.2.2.2.1 p HX.out.2.1).mono ?_
          rintro e w5 ⟨rfl, F5, hl, hmv⟩
          have H5 : Hid (Tk17 w w5 q (Lk.adds who s (ps.take (k + 1))) F F5 b1 b2 who (.slice (some ⟨g, o, none⟩) N c) ps) := (show Tk17 w w5 q (Lk.adds who s (ps.take (k + 1))) F F5 b1 b2 who (.slice (some ⟨g, o, none⟩) N c) ps by rw [HX.out.2.2]; exact H4.out.moved hl hmv)
          clear hl hmv H4 c0 d1 d2
          go_wp2
          go_roundw
          case rel => exact ⟨k + 1, F5, by omega, by go_num, H5.out⟩
          case measure => simp [intOf]; omega
        · have hlt' : ¬ (k : Int) < (N : Int) := by omega
          obtain rfl : k = N := by omega
          have e : ps.take k = ps := by rw [HN.out, List.take_length]
          rw [e] at H4
          clear e
          go_wp2
          go_ret2
          rw [HT.out.1]
          exact ⟨rfl, F1, H4.out.lk, H4.out.mv⟩
    · obtain ⟨g, o, rfl, c0⟩ := (show ∃ g o, av = some ⟨g, o, none⟩ ∧ w3.cell? ⟨g, o + k, none⟩ = some (.string p) by
        obtain ⟨av2, k2, cc, e, _, hcs⟩ := H3.out.ss
        simp only [Value.slice.injEq] at e
        rw [e.1]
        exact hcs k p hk)
      have hkN : (k : Int) < (N : Int) := by have := (List.getElem?_eq_some_iff.1 hk).1; have := HN.out; omega
      have hk0 : (0 : Int) ≤ (k : Int) := by omega
      have HT : Hid (R = (p, false, s)) := (show R = (p, false, s) by rw [HR.out]; exact Lk.take_no (by unfold Lk.faulty; rw [HG.out]; exact hfind))
      clear hk hfind
      go_wp2
      go_ret2
      rw [HT.out]
      exact ⟨F, rfl, H3.out.lk, H3.out.mv⟩
  · obtain ⟨g, o, rfl, c0⟩ := (show ∃ g o, av = some ⟨g, o, none⟩ ∧ w2.cell? ⟨g, o + k, none⟩ = some (.string p) by
      obtain ⟨av2, k2, cc, e, _, hcs⟩ := H2.out.ss
      simp only [Value.slice.injEq] at e
      rw [e.1]
      exact hcs k p hk)
    have hkN : (k : Int) < (N : Int) := by have := (List.getElem?_eq_some_iff.1 hk).1; have := HN.out; omega
    have hk0 : (0 : Int) ≤ (k : Int) := by omega
    have HT : Hid (R = (p, false, s)) := (show R = (p, false, s) by rw [HR.out]; exact Lk.take_no (by unfold Lk.faulty; rw [hfind]))
    clear hk hfind
    go_wp2
    go_ret2
    rw [HT.out]
    exact ⟨F, rfl, H2.out.lk, H2.out.mv⟩
/-- The landed lock answers as it is asked to. -/
theorem specs_any17 : Specs17 LLk where
  lt h hk := llk_lt h hk
  keep h hk := llk_keep h hk
  new w := new_any17 w
  take _ _ _ _ who v ps _ h hf hm hlo hS hw hv hl hp hoff := take_any17 h hf hm hlo hS who hw v ps hv hl hp hoff
  free _ _ _ _ who _ h hf hm hlo hS hw := free_any17 h hf hm hlo hS who hw
  held q s F m p w h hf hm hp := by
    obtain ⟨a, b, c, d, fh, fo, fu, fs, V, h, _⟩ := h
    refine (held_any17 h p hp).mono ?_
    rintro e w' ⟨rfl, hw⟩
    rw [hw]
    exact ⟨rfl, Below.refl _ _⟩
  blocks q s F m who p w h hf hm hS hw hp := by
    obtain ⟨a, b, c, d, fh, fo, fu, fs, V, h, hu, hs⟩ := h
    exact blocks_any17 h hu hs hf hS who hw p hp
  len q s F m w h hf hm := by
    obtain ⟨a, b, c, d, fh, fo, fu, fs, V, h, _⟩ := h
    refine (len_any17 h hf).mono ?_
    rintro e w' ⟨rfl, hw⟩
    rw [hw]
    exact ⟨rfl, Below.refl _ _⟩
end Go.Proofs.YtadgjinlblloiaaDoor
