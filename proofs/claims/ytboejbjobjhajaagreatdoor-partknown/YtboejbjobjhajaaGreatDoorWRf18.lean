/- What the landed share's refusal answers. -/
import Derived.Test.YtboejbjobjhajaaGreatDoorWb18
namespace Go.Proofs.YtboejbjobjhajaaGreatDoor
open Go.RowKit
def InO18 (os : List O) (f : O → Bool) (r : Int) : Prop := (r = -1 ∧ os.findIdx? f = none) ∨ ∃ k : Nat, r = (k : Int) ∧ k < os.length ∧ os.findIdx? f = some k
theorem findIdx_at18 : ∀ {os : List O} {f : O → Bool} {k : Nat} {x : O}, os[k]? = some x → f x = true → (∀ y ∈ os.take k, f y = false) → os.findIdx? f = some k
  | [], _, _, _, h, _, _ => by simp at h
  | a :: os, f, 0, x, h, hf, _ => by
    simp at h
    subst h
    simp [List.findIdx?_cons, hf]
  | a :: os, f, k + 1, x, h, hf, hy => by
    have h1 : f a = false := hy a (by simp)
    have h2 := findIdx_at18 (os := os) (f := f) (k := k) (x := x) (by simpa using h) hf (fun y hm => hy y (by simp [hm]))
    simp [List.findIdx?_cons, h1, h2]
set_option maxRecDepth 20000 in
set_option maxHeartbeats 4000000 in
theorem index_creates18 (v : Value) (os : List O) (f : O → Bool) (w : World) (hv : Ol w v os) (hl : os.length ≤ 1000)
    (hc : ∀ x ∈ os, ∀ w', Below w.heap.size w w' → Calls Tryz.prog 92 #[ov x] w' fun e w2 => e = .returned (.bool (f x)) ∧ Below w'.heap.size w' w2) :
    Calls Tryz.prog 89 #[v, (Value.func (.func 92) #[] #[])] w fun e w' => ∃ r, e = .returned (.int .i64 r) ∧ InO18 os f r ∧ Below w.heap.size w w' := by
  have hv2 := hv
  obtain ⟨av, N, c, rfl, hN, _⟩ := hv2
  have H0 : Hid (N = os.length ∧ Ol w (.slice av N c) os ∧ ∀ x ∈ os, ∀ w', Below w.heap.size w w' → Calls Tryz.prog 92 #[ov x] w' fun e w2 => e = .returned (.bool (f x)) ∧ Below w'.heap.size w' w2) := ⟨hN, hv, hc⟩
  have hNm : N ≤ 1000 := by omega
  clear hN hv hc hl
  go_enter Tryz.func89, Tryz.ntmps89
  go_wp2
  go_loopw [8] (fun i wx => ∃ k : Nat, k ≤ N ∧ i = .int .i64 (k : Int) ∧ Below w.heap.size w wx ∧ ∀ y ∈ os.take k, f y = false) (fun i _ => N - (intOf i).toNat)
  case atStart => exact ⟨0, Nat.zero_le _, rfl, Below.refl _ _, fun y hy => by simp at hy⟩
  case round =>
    obtain ⟨k, hk, rfl, hb, hy⟩ := hrel
    have HW : Hid (Below w.heap.size w wr ∧ ∀ y ∈ os.take k, f y = false) := ⟨hb, hy⟩
    clear hb hy
    by_cases hlt : k < N
    · have hlt' : (k : Int) < (N : Int) := by omega
      have hk0 : (0 : Int) ≤ (k : Int) := by omega
      have hwk : IntKind.wrap .i64 ((k : Int) + 1) = (k : Int) + 1 := by rw [IntKind.wrap_i64]; omega
      obtain ⟨x, hx⟩ : ∃ x, os[k]? = some x := ⟨os[k]'(by rw [← H0.out.1]; exact hlt), List.getElem?_eq_getElem _⟩
      have HX : Hid (os[k]? = some x) := hx
      obtain ⟨g, b, rfl, y0, y1, y2, y3, y4⟩ := ol_at18 (ol_keep18 H0.out.2.1 (fun _ k hk hl => HW.out.1.block k hl)) hx
      clear hx
      go_wp2_with fail
      refine (H0.out.2.2 x (List.mem_of_getElem? HX.out) wr HW.out.1).mono ?_
      rintro e w2 ⟨rfl, hb2⟩
      have H2 : Hid (Below w.heap.size w w2) := HW.out.1.trans (hb2.mono HW.out.1.size)
      clear hb2 y0 y1 y2 y3 y4
      cases hs : f x with
      | true =>
        have HR : Hid (InO18 os f (k : Int)) := Or.inr ⟨k, rfl, (List.getElem?_eq_some_iff.1 HX.out).1, findIdx_at18 HX.out hs HW.out.2⟩
        clear hs
        go_wp2
        go_ret
        exact ⟨_, rfl, HR.out, H2.out⟩
      | false =>
        have HR : Hid (∀ y ∈ os.take (k + 1), f y = false) := fun y hy => by
          rw [List.take_add_one, HX.out] at hy
          rcases List.mem_append.1 hy with hy | hy
          · exact HW.out.2 y hy
          · simp at hy
            rw [hy]
            exact hs
        clear hs
        go_wp2
        go_roundw
        case rel => exact ⟨k + 1, by omega, by go_num, H2.out, HR.out⟩
        case measure => simp [intOf]; omega
    · have hlt' : ¬ (k : Int) < (N : Int) := by omega
      have HR : Hid (InO18 os f (-1)) := Or.inl ⟨rfl, List.findIdx?_eq_none_iff.2 fun y hy => HW.out.2 y (by rw [List.take_of_length_le (by rw [← H0.out.1]; omega)]; exact hy)⟩
      go_wp2
      go_ret
      exact ⟨_, rfl, HR.out, HW.out.1⟩
set_option maxRecDepth 20000 in
set_option maxHeartbeats 4000000 in
theorem index_refusal18 (v : Value) (os : List O) (f : O → Bool) (w : World) (hv : Ol w v os) (hl : os.length ≤ 1000) (b1 b2 : Nat)
    (hc : ∀ x ∈ os, ∀ w', Below w.heap.size w w' → Calls Tryz.prog 90 #[ov x, .pointer (some ⟨b1, 0, none⟩), .pointer (some ⟨b2, 0, none⟩)] w' fun e w2 => e = .returned (.bool (f x)) ∧ Below w'.heap.size w' w2) :
    Calls Tryz.prog 89 #[v, (Value.func (.func 90) #[] #[.pointer (some ⟨b1, 0, none⟩), .pointer (some ⟨b2, 0, none⟩)])] w fun e w' => ∃ r, e = .returned (.int .i64 r) ∧ InO18 os f r ∧ Below w.heap.size w w' := by
  have hv2 := hv
  obtain ⟨av, N, c, rfl, hN, _⟩ := hv2
  have H0 : Hid (N = os.length ∧ Ol w (.slice av N c) os ∧ ∀ x ∈ os, ∀ w', Below w.heap.size w w' → Calls Tryz.prog 90 #[ov x, .pointer (some ⟨b1, 0, none⟩), .pointer (some ⟨b2, 0, none⟩)] w' fun e w2 => e = .returned (.bool (f x)) ∧ Below w'.heap.size w' w2) := ⟨hN, hv, hc⟩
  have hNm : N ≤ 1000 := by omega
  clear hN hv hc hl
  go_enter Tryz.func89, Tryz.ntmps89
  go_wp2
  go_loopw [8] (fun i wx => ∃ k : Nat, k ≤ N ∧ i = .int .i64 (k : Int) ∧ Below w.heap.size w wx ∧ ∀ y ∈ os.take k, f y = false) (fun i _ => N - (intOf i).toNat)
  case atStart => exact ⟨0, Nat.zero_le _, rfl, Below.refl _ _, fun y hy => by simp at hy⟩
  case round =>
    obtain ⟨k, hk, rfl, hb, hy⟩ := hrel
    have HW : Hid (Below w.heap.size w wr ∧ ∀ y ∈ os.take k, f y = false) := ⟨hb, hy⟩
    clear hb hy
    by_cases hlt : k < N
    · have hlt' : (k : Int) < (N : Int) := by omega
      have hk0 : (0 : Int) ≤ (k : Int) := by omega
      have hwk : IntKind.wrap .i64 ((k : Int) + 1) = (k : Int) + 1 := by rw [IntKind.wrap_i64]; omega
      obtain ⟨x, hx⟩ : ∃ x, os[k]? = some x := ⟨os[k]'(by rw [← H0.out.1]; exact hlt), List.getElem?_eq_getElem _⟩
      have HX : Hid (os[k]? = some x) := hx
      obtain ⟨g, b, rfl, y0, y1, y2, y3, y4⟩ := ol_at18 (ol_keep18 H0.out.2.1 (fun _ k hk hl => HW.out.1.block k hl)) hx
      clear hx
      go_wp2_with fail
      refine (H0.out.2.2 x (List.mem_of_getElem? HX.out) wr HW.out.1).mono ?_
      rintro e w2 ⟨rfl, hb2⟩
      have H2 : Hid (Below w.heap.size w w2) := HW.out.1.trans (hb2.mono HW.out.1.size)
      clear hb2 y0 y1 y2 y3 y4
      cases hs : f x with
      | true =>
        have HR : Hid (InO18 os f (k : Int)) := Or.inr ⟨k, rfl, (List.getElem?_eq_some_iff.1 HX.out).1, findIdx_at18 HX.out hs HW.out.2⟩
        clear hs
        go_wp2
        go_ret
        exact ⟨_, rfl, HR.out, H2.out⟩
      | false =>
        have HR : Hid (∀ y ∈ os.take (k + 1), f y = false) := fun y hy => by
          rw [List.take_add_one, HX.out] at hy
          rcases List.mem_append.1 hy with hy | hy
          · exact HW.out.2 y hy
          · simp at hy
            rw [hy]
            exact hs
        clear hs
        go_wp2
        go_roundw
        case rel => exact ⟨k + 1, by omega, by go_num, H2.out, HR.out⟩
        case measure => simp [intOf]; omega
    · have hlt' : ¬ (k : Int) < (N : Int) := by omega
      have HR : Hid (InO18 os f (-1)) := Or.inl ⟨rfl, List.findIdx?_eq_none_iff.2 fun y hy => HW.out.2 y (by rw [List.take_of_length_le (by rw [← H0.out.1]; omega)]; exact hy)⟩
      go_wp2
      go_ret
      exact ⟨_, rfl, HR.out, HW.out.1⟩
section
variable {LT : Rep11} {LS : Rep17} {w : World} {q : Nat} {room z wt : Int} {t : Tq.Tr} {lk : Lk.St} {fw fd fs : Lit → Option Value} {F : Nat → Prop} {qt ql a b c : Nat} {Ft Fl G : Nat → Prop} {ps : List Pt.Pr} {dn cl : List Int} {V : Int → Value}
set_option maxRecDepth 20000 in
set_option maxHeartbeats 2000000 in
theorem refusalC_any18 (S : Base18 LT LS) {m : Nat} (h : PtU18 LT LS w q room z wt t lk fw fd fs F qt ql a b c Ft Fl G) (hf : Lk.Fine m lk) (hm : m ≤ 1000000) (hS : Pa.Std w) (who : Int) (hw : I64 who) (o : O) (hg : Oq.good o = 0) (b1 b2 : Nat) (h1 : w.cell? ⟨b1, 0, none⟩ = some (dptr q)) (h2 : w.cell? ⟨b2, 0, none⟩ = some (.int .i64 who)) :
    Calls Tryz.prog 90 #[ov o, .pointer (some ⟨b1, 0, none⟩), .pointer (some ⟨b2, 0, none⟩)] w fun e w' => e = .returned (.bool ((Pt.wants o).any (Lk.blocks lk who))) ∧ Below w.heap.size w w' := by
  obtain ⟨R, hR⟩ : ∃ R, R = (Pt.wants o).any (Lk.blocks lk who) := ⟨_, rfl⟩
  rw [← hR]
  have HR : Hid (R = (Pt.wants o).any (Lk.blocks lk who)) := hR
  have HH : Hid (Base18 LT LS ∧ Lk.Fine m lk ∧ m ≤ 1000000 ∧ Pa.Std w ∧ I64 who ∧ Oq.good o = 0 ∧ PtU18 LT LS w q room z wt t lk fw fd fs F qt ql a b c Ft Fl G) := ⟨S, hf, hm, hS, hw, hg, h⟩
  have HB : Hid (Below w.heap.size w (w.alloc (.cells #[.int .i64 o.kind, .string o.path, .string o.data, .int .i64 o.ver, .int .i64 o.flags] 30)) ∧ Box5 (w.alloc (.cells #[.int .i64 o.kind, .string o.path, .string o.data, .int .i64 o.ver, .int .i64 o.flags] 30)) w.heap.size o ∧ (w.alloc (.cells #[.int .i64 o.kind, .string o.path, .string o.data, .int .i64 o.ver, .int .i64 o.flags] 30)).cell? ⟨b1, 0, none⟩ = some (dptr q) ∧ (w.alloc (.cells #[.int .i64 o.kind, .string o.path, .string o.data, .int .i64 o.ver, .int .i64 o.flags] 30)).cell? ⟨b2, 0, none⟩ = some (.int .i64 who)) := by
    have hb := (Below.refl w.heap.size w).alloc (Nat.le_refl _) (.cells #[.int .i64 o.kind, .string o.path, .string o.data, .int .i64 o.ver, .int .i64 o.flags] 30)
    exact ⟨hb, Box5.made w o _, Below.kept hb h1, Below.kept hb h2⟩
  clear S hf hm hS hw hg h hR h1 h2
  unfold ov
  go_enter Tryz.func90, Tryz.ntmps90
  go_upto_region 1 with fail
  generalize w.alloc (.cells #[.int .i64 o.kind, .string o.path, .string o.data, .int .i64 o.ver, .int .i64 o.flags] 30) = w1 at *
  obtain ⟨c0, c1, c2, c3, c4⟩ := HB.out.2.1
  have d1 := HB.out.2.2.1
  have d2 := HB.out.2.2.2
  go_wp2_with fail
  refine (blocks_any18 HH.out.1 (HH.out.2.2.2.2.2.2.below HH.out.1.t HH.out.1.l HB.out.1) HH.out.2.1 HH.out.2.2.1 (HH.out.2.2.2.1.below HB.out.1) who HH.out.2.2.2.2.1 o HH.out.2.2.2.2.2.1).mono ?_
  rintro e w3 ⟨rfl, hb⟩
  rw [← HR.out]
  have H3 : Hid (Below w.heap.size w w3) := HB.out.1.trans (hb.mono HB.out.1.size)
  clear hb c0 c1 c2 c3 c4 d1 d2 HB
  go_wp2
  go_ret
  exact ⟨rfl, H3.out⟩
theorem made_le18 (os : List O) : Pt.made os ≤ os.length := List.countP_le_length
set_option maxRecDepth 20000 in
set_option maxHeartbeats 8000000 in
theorem refusal_any18 (S : Base18 LT LS) {m : Nat} {s : Pt.St} (h : PtU18 LT LS w q s.t.room z (Pt.wanted s : Int) s.t s.lk fw fd fs F qt ql a b c Ft Fl G) (he : IsE18 s.ps s.cl fs) (hf : Lk.Fine m s.lk) (hm : m ≤ 1000000) (hwt : Pt.wanted s ≤ 1000000) (htl : s.t.l.length ≤ 500) (hS : Pa.Std w) (who : Int) (hw : I64 who) (se : Int) (hse : I64 se) (v : Value) (os : List O) (hv : Ol w v os) (hl : os.length ≤ 1000) (hg : ∀ o ∈ os, Oq.good o = 0) :
    Calls Tryz.prog 45 #[dptr q, .int .i64 who, .int .i64 se, v] w fun e w' => e = .returned (.tuple #[.int .i64 (Pt.refusal s who se os).1, .int .i64 (Pt.refusal s who se os).2]) ∧ Below w.heap.size w w' := by
  obtain ⟨R, hR⟩ : ∃ R, R = Pt.refusal s who se os := ⟨_, rfl⟩
  rw [← hR]
  have HR : Hid (R = Pt.refusal s who se os) := hR
  have HH : Hid (Base18 LT LS ∧ Lk.Fine m s.lk ∧ m ≤ 1000000 ∧ Pa.Std w ∧ I64 who ∧ I64 se ∧ (∀ o ∈ os, Oq.good o = 0) ∧ PtU18 LT LS w q s.t.room z (Pt.wanted s : Int) s.t s.lk fw fd fs F qt ql a b c Ft Fl G ∧ IsE18 s.ps s.cl fs) := ⟨S, hf, hm, hS, hw, hse, hg, h, he⟩
  have hv2 := hv
  obtain ⟨av, N, cc, rfl, hN, _⟩ := hv2
  have HV : Hid (Ol w (.slice av N cc) os ∧ os.length ≤ 1000 ∧ Pt.wanted s ≤ 1000000 ∧ s.t.l.length ≤ 500) := ⟨hv, hl, hwt, htl⟩
  clear S hf hm hS hw hse hg h he hR hv hl hN hwt htl
  go_enter Tryz.func45, Tryz.ntmps45
  go_upto_region 1 with fail
  obtain ⟨b1, hb1⟩ : ∃ b, b = w.heap.size := ⟨_, rfl⟩
  rw [← hb1]
  obtain ⟨b2, hb2⟩ : ∃ b, b = b1 + 1 := ⟨_, rfl⟩
  rw [← hb2]
  have H1 : Hid (Below w.heap.size w ((w.alloc (.cells #[dptr q] 23)).alloc (.cells #[.int .i64 who] 2)) ∧ ((w.alloc (.cells #[dptr q] 23)).alloc (.cells #[.int .i64 who] 2)).cell? ⟨b1, 0, none⟩ = some (dptr q) ∧ ((w.alloc (.cells #[dptr q] 23)).alloc (.cells #[.int .i64 who] 2)).cell? ⟨b2, 0, none⟩ = some (.int .i64 who)) := by
    have hba := (Below.refl w.heap.size w).alloc (Nat.le_refl _) (.cells #[dptr q] 23)
    obtain ⟨wa, hwa⟩ : ∃ z, z = w.alloc (.cells #[dptr q] 23) := ⟨_, rfl⟩
    have hs : wa.heap.size = b2 := by rw [hwa, hb2, hb1]; simp
    have ca : Cb wa b1 [dptr q] 23 := by rw [hwa, hb1]; exact Cb.made w _ _
    rw [← hwa] at hba ⊢
    have hbc := (Below.refl wa.heap.size wa).alloc (Nat.le_refl _) (.cells #[.int .i64 who] 2)
    have cb : Cb (wa.alloc (.cells #[.int .i64 who] 2)) b2 [.int .i64 who] 2 := by rw [← hs]; exact Cb.made wa _ _
    exact ⟨hba.alloc hba.size _, (ca.below hbc).cell 0, cb.cell 0⟩
  clear hb1 hb2
  generalize (w.alloc (.cells #[dptr q] 23)).alloc (.cells #[.int .i64 who] 2) = w1 at *
  have d1 := H1.out.2.1
  obtain ⟨E, hE⟩ : ∃ E, E = Pt.ended s se := ⟨_, rfl⟩
  have HE : Hid (E = Pt.ended s se) := hE
  clear hE
  go_wp2_with fail
  have HC : Hid (Calls Tryz.prog 58 #[dptr q, .int .i64 se] w1 fun e w' => e = .returned (.int .i64 E) ∧ Below w1.heap.size w1 w') := (show Calls Tryz.prog 58 #[dptr q, .int .i64 se] w1 fun e w' => e = .returned (.int .i64 E) ∧ Below w1.heap.size w1 w' by
    rw [HE.out]
    exact ended_any18 (HH.out.2.2.2.2.2.2.2.1.below HH.out.1.t HH.out.1.l H1.out.1) HH.out.2.2.2.2.2.2.2.2 se HH.out.2.2.2.2.2.1)
  refine HC.out.mono ?_
  rintro e w2 ⟨rfl, hb⟩
  have H2 : Hid (Below w.heap.size w w2 ∧ w2.cell? ⟨b1, 0, none⟩ = some (dptr q) ∧ w2.cell? ⟨b2, 0, none⟩ = some (.int .i64 who)) := ⟨H1.out.1.trans (hb.mono H1.out.1.size), Below.kept hb H1.out.2.1, Below.kept hb H1.out.2.2⟩
  clear hb d1 HC H1
  by_cases hE0 : E = 0
  case neg =>
    have HT : Hid (R = (E, -1)) := (show R = (E, -1) by rw [HR.out]; unfold Pt.refusal; rw [if_pos (by rw [← HE.out]; exact hE0), ← HE.out])
    have hEb : (E != 0) = true := by simp [hE0]
    clear hE0
    go_wp2
    go_ret2
    rw [HT.out]
    exact ⟨rfl, H2.out.1⟩
  case pos =>
  subst hE0
  go_wp2_with fail
  refine (index_refusal18 (.slice av N cc) os (Pt.bars s who) w2 (ol_keep18 HV.out.1 (fun _ k _ hl => H2.out.1.block k hl)) HV.out.2.1 b1 b2 (fun x hx w' hb => by
    have hb' := H2.out.1.trans (hb.mono H2.out.1.size)
    exact refusalC_any18 HH.out.1 (HH.out.2.2.2.2.2.2.2.1.below HH.out.1.t HH.out.1.l hb') HH.out.2.1 HH.out.2.2.1 (HH.out.2.2.2.1.below hb') who HH.out.2.2.2.2.1 x (HH.out.2.2.2.2.2.2.1 x hx) b1 b2 (Below.kept hb H2.out.2.1) (Below.kept hb H2.out.2.2))).mono ?_
  rintro e w3 ⟨r, rfl, hr, hb⟩
  have H3 : Hid (Below w.heap.size w w3 ∧ w3.cell? ⟨b1, 0, none⟩ = some (dptr q) ∧ w3.cell? ⟨b2, 0, none⟩ = some (.int .i64 who)) := ⟨H2.out.1.trans (hb.mono H2.out.1.size), Below.kept hb H2.out.2.1, Below.kept hb H2.out.2.2⟩
  clear hb H2
  rcases hr with ⟨rfl, hn⟩ | ⟨k, rfl, _, hs⟩
  case inr =>
    have HT : Hid (R = (12, (k : Int))) := (show R = (12, (k : Int)) by rw [HR.out]; unfold Pt.refusal; rw [if_neg (by rw [← HE.out]; simp), hs])
    have hk : (0 : Int) ≤ (k : Int) := by omega
    clear hs
    go_wp2
    go_ret2
    rw [HT.out]
    exact ⟨rfl, H3.out.1⟩
  case inl =>
  have HN : Hid (os.findIdx? (Pt.bars s who) = none) := hn
  clear hn
  go_wp2_with fail
  refine (index_creates18 (.slice av N cc) os Pt.creates w3 (ol_keep18 HV.out.1 (fun _ k _ hl => H3.out.1.block k hl)) HV.out.2.1 (fun x hx w' hb => creates_any18 x w')).mono ?_
  rintro e w4 ⟨r, rfl, hr, hb⟩
  have H4 : Hid (Below w.heap.size w w4 ∧ w4.cell? ⟨b1, 0, none⟩ = some (dptr q)) := ⟨H3.out.1.trans (hb.mono H3.out.1.size), Below.kept hb H3.out.2.1⟩
  clear hb H3
  go_upto_region 8 with fail
  refine wp_region_held_drew (S := fun w' => Below w4.heap.size w4 w') (by kernel_rfl) (Below.refl _ w4).drew (fun _ => ?_)
  have H5 : Hid (Below w4.heap.size w4 w4.drew) := (Below.refl _ w4).drew
  generalize w4.drew = w5 at *
  rcases hr with ⟨rfl, hn⟩ | ⟨k, rfl, hkl, hs⟩
  case inl =>
    have HT : Hid (R = (0, -1)) := (show R = (0, -1) by rw [HR.out]; unfold Pt.refusal; rw [if_neg (by rw [← HE.out]; simp), HN.out]; simp only [hn])
    clear hn
    refine' take_at (i := 0) (d := 27) (v := _) rfl rfl (by kernel_rfl) (by kernel_rfl) (by kernel_rfl) (fun _ _ _ h => h) (Or.inl ⟨by rfl, ?h0⟩) (H5.out) ?_
    case h0 =>
      intro w hSw
      go_simp
      with_reducible rfl
    simp only [List.setIfInBounds_toArray, List.set_cons_zero, List.set_cons_succ]
    refine' take_at (i := 1) (d := 28) (v := _) rfl rfl (by kernel_rfl) (by kernel_rfl) (by kernel_rfl) (fun _ _ _ h => h) (Or.inl ⟨by rfl, ?h1⟩) (H5.out) ?_
    case h1 =>
      intro w hSw
      go_simp
      with_reducible rfl
    simp only [List.setIfInBounds_toArray, List.set_cons_zero, List.set_cons_succ]
    refine' take_at (i := 2) (d := 29) (v := _) rfl rfl (by kernel_rfl) (by kernel_rfl) (by kernel_rfl) (fun _ _ _ h => h) (Or.inl ⟨by rfl, ?h2⟩) (H5.out) ?_
    case h2 =>
      intro w hSw
      go_simp
      with_reducible rfl
    simp only [List.setIfInBounds_toArray, List.set_cons_zero, List.set_cons_succ]
    refine' take_at (i := 3) (d := 30) (v := undef) rfl rfl (by kernel_rfl) (by kernel_rfl) (by kernel_rfl) (fun _ _ _ h => h) (Or.inr ⟨by rfl, rfl⟩) (H5.out) ?_
    simp only [List.setIfInBounds_toArray, List.set_cons_zero, List.set_cons_succ]
    refine' take_at (i := 4) (d := 31) (v := undef) rfl rfl (by kernel_rfl) (by kernel_rfl) (by kernel_rfl) (fun _ _ _ h => h) (Or.inr ⟨by rfl, rfl⟩) (H5.out) ?_
    simp only [List.setIfInBounds_toArray, List.set_cons_zero, List.set_cons_succ]
    refine' take_at (i := 5) (d := 32) (v := undef) rfl rfl (by kernel_rfl) (by kernel_rfl) (by kernel_rfl) (fun _ _ _ h => h) (Or.inr ⟨by rfl, rfl⟩) (H5.out) ?_
    simp only [List.setIfInBounds_toArray, List.set_cons_zero, List.set_cons_succ]
    refine' take_at (i := 6) (d := 33) (v := undef) rfl rfl (by kernel_rfl) (by kernel_rfl) (by kernel_rfl) (fun _ _ _ h => h) (Or.inr ⟨by rfl, rfl⟩) (H5.out) ?_
    simp only [List.setIfInBounds_toArray, List.set_cons_zero, List.set_cons_succ]
    refine' take_at (i := 7) (d := 34) (v := undef) rfl rfl (by kernel_rfl) (by kernel_rfl) (by kernel_rfl) (fun _ _ _ h => h) (Or.inr ⟨by rfl, rfl⟩) (H5.out) ?_
    simp only [List.setIfInBounds_toArray, List.set_cons_zero, List.set_cons_succ]
    refine' take_at (i := 8) (d := 35) (v := _) rfl rfl (by kernel_rfl) (by kernel_rfl) (by kernel_rfl) (fun _ _ _ h => h) (Or.inl ⟨by rfl, ?h8⟩) (H5.out) ?_
    case h8 =>
      intro w hSw
      go_simp
      with_reducible rfl
    simp only [List.setIfInBounds_toArray, List.set_cons_zero, List.set_cons_succ]
    refine' take_at (i := 9) (d := 36) (v := _) rfl rfl (by kernel_rfl) (by kernel_rfl) (by kernel_rfl) (fun _ _ _ h => h) (Or.inl ⟨by rfl, ?h9⟩) (H5.out) ?_
    case h9 =>
      intro w hSw
      go_simp
      with_reducible rfl
    simp only [List.setIfInBounds_toArray, List.set_cons_zero, List.set_cons_succ]
    refine' take_at (i := 10) (d := 37) (v := undef) rfl rfl (by kernel_rfl) (by kernel_rfl) (by kernel_rfl) (fun _ _ _ h => h) (Or.inr ⟨by rfl, rfl⟩) (H5.out) ?_
    simp only [List.setIfInBounds_toArray, List.set_cons_zero, List.set_cons_succ]
    refine' take_at (i := 11) (d := 38) (v := undef) rfl rfl (by kernel_rfl) (by kernel_rfl) (by kernel_rfl) (fun _ _ _ h => h) (Or.inr ⟨by rfl, rfl⟩) (H5.out) ?_
    simp only [List.setIfInBounds_toArray, List.set_cons_zero, List.set_cons_succ]
    refine' take_at (i := 12) (d := 39) (v := undef) rfl rfl (by kernel_rfl) (by kernel_rfl) (by kernel_rfl) (fun _ _ _ h => h) (Or.inr ⟨by rfl, rfl⟩) (H5.out) ?_
    simp only [List.setIfInBounds_toArray, List.set_cons_zero, List.set_cons_succ]
    refine' take_at (i := 13) (d := 40) (v := undef) rfl rfl (by kernel_rfl) (by kernel_rfl) (by kernel_rfl) (fun _ _ _ h => h) (Or.inr ⟨by rfl, rfl⟩) (H5.out) ?_
    simp only [List.setIfInBounds_toArray, List.set_cons_zero, List.set_cons_succ]
    refine' take_at (i := 14) (d := 41) (v := undef) rfl rfl (by kernel_rfl) (by kernel_rfl) (by kernel_rfl) (fun _ _ _ h => h) (Or.inr ⟨by rfl, rfl⟩) (H5.out) ?_
    simp only [List.setIfInBounds_toArray, List.set_cons_zero, List.set_cons_succ]
    refine' take_at (i := 15) (d := 42) (v := undef) rfl rfl (by kernel_rfl) (by kernel_rfl) (by kernel_rfl) (fun _ _ _ h => h) (Or.inr ⟨by rfl, rfl⟩) (H5.out) ?_
    simp only [List.setIfInBounds_toArray, List.set_cons_zero, List.set_cons_succ]
    refine' take_at (i := 16) (d := 43) (v := undef) rfl rfl (by kernel_rfl) (by kernel_rfl) (by kernel_rfl) (fun _ _ _ h => h) (Or.inr ⟨by rfl, rfl⟩) (H5.out) ?_
    simp only [List.setIfInBounds_toArray, List.set_cons_zero, List.set_cons_succ]
    refine' take_at (i := 17) (d := 44) (v := undef) rfl rfl (by kernel_rfl) (by kernel_rfl) (by kernel_rfl) (fun _ _ _ h => h) (Or.inr ⟨by rfl, rfl⟩) (H5.out) ?_
    simp only [List.setIfInBounds_toArray, List.set_cons_zero, List.set_cons_succ]
    refine' take_at (i := 18) (d := 45) (v := undef) rfl rfl (by kernel_rfl) (by kernel_rfl) (by kernel_rfl) (fun _ _ _ h => h) (Or.inr ⟨by rfl, rfl⟩) (H5.out) ?_
    simp only [List.setIfInBounds_toArray, List.set_cons_zero, List.set_cons_succ]
    refine' take_at (i := 19) (d := 46) (v := undef) rfl rfl (by kernel_rfl) (by kernel_rfl) (by kernel_rfl) (fun _ _ _ h => h) (Or.inr ⟨by rfl, rfl⟩) (H5.out) ?_
    simp only [List.setIfInBounds_toArray, List.set_cons_zero, List.set_cons_succ]
    refine' take_at (i := 20) (d := 47) (v := undef) rfl rfl (by kernel_rfl) (by kernel_rfl) (by kernel_rfl) (fun _ _ _ h => h) (Or.inr ⟨by rfl, rfl⟩) (H5.out) ?_
    simp only [List.setIfInBounds_toArray, List.set_cons_zero, List.set_cons_succ]
    refine' take_at (i := 21) (d := 48) (v := undef) rfl rfl (by kernel_rfl) (by kernel_rfl) (by kernel_rfl) (fun _ _ _ h => h) (Or.inr ⟨by rfl, rfl⟩) (H5.out) ?_
    simp only [List.setIfInBounds_toArray, List.set_cons_zero, List.set_cons_succ]
    refine' take_at (i := 22) (d := 49) (v := undef) rfl rfl (by kernel_rfl) (by kernel_rfl) (by kernel_rfl) (fun _ _ _ h => h) (Or.inr ⟨by rfl, rfl⟩) (H5.out) ?_
    simp only [List.setIfInBounds_toArray, List.set_cons_zero, List.set_cons_succ]
    refine' take_at (i := 23) (d := 50) (v := undef) rfl rfl (by kernel_rfl) (by kernel_rfl) (by kernel_rfl) (fun _ _ _ h => h) (Or.inr ⟨by rfl, rfl⟩) (H5.out) ?_
    simp only [List.setIfInBounds_toArray, List.set_cons_zero, List.set_cons_succ]
    refine' take_at (i := 24) (d := 51) (v := undef) rfl rfl (by kernel_rfl) (by kernel_rfl) (by kernel_rfl) (fun _ _ _ h => h) (Or.inr ⟨by rfl, rfl⟩) (H5.out) ?_
    simp only [List.setIfInBounds_toArray, List.set_cons_zero, List.set_cons_succ]
    refine' take_at (i := 25) (d := 52) (v := undef) rfl rfl (by kernel_rfl) (by kernel_rfl) (by kernel_rfl) (fun _ _ _ h => h) (Or.inr ⟨by rfl, rfl⟩) (H5.out) ?_
    simp only [List.setIfInBounds_toArray, List.set_cons_zero, List.set_cons_succ]
    refine' take_at (i := 26) (d := 53) (v := undef) rfl rfl (by kernel_rfl) (by kernel_rfl) (by kernel_rfl) (fun _ _ _ h => h) (Or.inr ⟨by rfl, rfl⟩) (H5.out) ?_
    simp only [List.setIfInBounds_toArray, List.set_cons_zero, List.set_cons_succ]
    refine' take_at (i := 27) (d := 54) (v := undef) rfl rfl (by kernel_rfl) (by kernel_rfl) (by kernel_rfl) (fun _ _ _ h => h) (Or.inr ⟨by rfl, rfl⟩) (H5.out) ?_
    simp only [List.setIfInBounds_toArray, List.set_cons_zero, List.set_cons_succ]
    refine' take_at (i := 28) (d := 55) (v := _) rfl rfl (by kernel_rfl) (by kernel_rfl) (by kernel_rfl) (fun _ _ _ h => h) (Or.inl ⟨by rfl, ?h28⟩) (H5.out) ?_
    case h28 =>
      intro w hSw
      go_simp
      with_reducible rfl
    simp only [List.setIfInBounds_toArray, List.set_cons_zero, List.set_cons_succ]
    refine wpAnyH_done (by kernel_rfl) ?_ _
    go_wp2
    go_ret2
    rw [HT.out]
    exact ⟨rfl, H4.out.1.trans (H5.out.mono H4.out.1.size)⟩
  case inr =>
  have hk : (0 : Int) ≤ (k : Int) := by omega
  have HW2 : Hid (PtU18 LT LS w4 q s.t.room z (Pt.wanted s : Int) s.t s.lk fw fd fs F qt ql a b c Ft Fl G) := HH.out.2.2.2.2.2.2.2.1.below HH.out.1.t HH.out.1.l H4.out.1
  obtain ⟨W, hW⟩ : ∃ W, W = Pt.wanted s := ⟨_, rfl⟩
  have HWW : Hid (W = Pt.wanted s ∧ os.findIdx? Pt.creates = some k ∧ 0 < Pt.made os) := ⟨hW, hs, (show 0 < os.countP Pt.creates by
    rw [List.countP_pos_iff]
    have h1 := List.findIdx?_eq_some_iff_getElem.1 hs
    exact ⟨os[k]'hkl, List.getElem_mem _, h1.2.1⟩)⟩
  have hWb : W ≤ 1000000 := by rw [hW]; exact HV.out.2.2.1
  rw [← hW] at HW2
  clear hW hs
  by_cases hW0 : W = 0
  · subst hW0
    have HT : Hid (R = (0, -1)) := (show R = (0, -1) by
      rw [HR.out]
      unfold Pt.refusal
      rw [if_neg (by rw [← HE.out]; simp), HN.out]
      simp only [HWW.out.2.1]
      unfold Pt.full
      rw [← HWW.out.1]
      simp)
    refine' take_at (i := 0) (d := 27) (v := _) rfl rfl (by kernel_rfl) (by kernel_rfl) (by kernel_rfl) (fun _ _ _ h => h) (Or.inl ⟨by rfl, ?h0⟩) (H5.out) ?_
    case h0 =>
      intro w hSw
      have t1 := Below.kept hSw H4.out.2
      have t2 := Below.kept hSw HW2.out.c7
      go_simp
      with_reducible rfl
    simp only [List.setIfInBounds_toArray, List.set_cons_zero, List.set_cons_succ]
    refine' take_at (i := 1) (d := 28) (v := _) rfl rfl (by kernel_rfl) (by kernel_rfl) (by kernel_rfl) (fun _ _ _ h => h) (Or.inl ⟨by rfl, ?h1⟩) (H5.out) ?_
    case h1 =>
      intro w hSw
      have t1 := Below.kept hSw H4.out.2
      have t2 := Below.kept hSw HW2.out.c7
      go_simp
      with_reducible rfl
    simp only [List.setIfInBounds_toArray, List.set_cons_zero, List.set_cons_succ]
    refine' take_at (i := 2) (d := 29) (v := _) rfl rfl (by kernel_rfl) (by kernel_rfl) (by kernel_rfl) (fun _ _ _ h => h) (Or.inl ⟨by rfl, ?h2⟩) (H5.out) ?_
    case h2 =>
      intro w hSw
      have t1 := Below.kept hSw H4.out.2
      have t2 := Below.kept hSw HW2.out.c7
      go_simp
      with_reducible rfl
    simp only [List.setIfInBounds_toArray, List.set_cons_zero, List.set_cons_succ]
    refine' take_at (i := 3) (d := 30) (v := _) rfl rfl (by kernel_rfl) (by kernel_rfl) (by kernel_rfl) (fun _ _ _ h => h) (Or.inl ⟨by rfl, ?h3⟩) (H5.out) ?_
    case h3 =>
      intro w hSw
      have t1 := Below.kept hSw H4.out.2
      have t2 := Below.kept hSw HW2.out.c7
      go_simp
      with_reducible rfl
    simp only [List.setIfInBounds_toArray, List.set_cons_zero, List.set_cons_succ]
    refine' take_at (i := 4) (d := 31) (v := _) rfl rfl (by kernel_rfl) (by kernel_rfl) (by kernel_rfl) (fun _ _ _ h => h) (Or.inl ⟨by rfl, ?h4⟩) (H5.out) ?_
    case h4 =>
      intro w hSw
      have t1 := Below.kept hSw H4.out.2
      have t2 := Below.kept hSw HW2.out.c7
      go_simp
      with_reducible rfl
    simp only [List.setIfInBounds_toArray, List.set_cons_zero, List.set_cons_succ]
    refine' take_at (i := 5) (d := 32) (v := _) rfl rfl (by kernel_rfl) (by kernel_rfl) (by kernel_rfl) (fun _ _ _ h => h) (Or.inl ⟨by rfl, ?h5⟩) (H5.out) ?_
    case h5 =>
      intro w hSw
      have t1 := Below.kept hSw H4.out.2
      have t2 := Below.kept hSw HW2.out.c7
      go_simp
      with_reducible rfl
    simp only [List.setIfInBounds_toArray, List.set_cons_zero, List.set_cons_succ]
    refine' take_at (i := 6) (d := 33) (v := _) rfl rfl (by kernel_rfl) (by kernel_rfl) (by kernel_rfl) (fun _ _ _ h => h) (Or.inl ⟨by rfl, ?h6⟩) (H5.out) ?_
    case h6 =>
      intro w hSw
      have t1 := Below.kept hSw H4.out.2
      have t2 := Below.kept hSw HW2.out.c7
      go_simp
      with_reducible rfl
    simp only [List.setIfInBounds_toArray, List.set_cons_zero, List.set_cons_succ]
    refine' take_at (i := 7) (d := 34) (v := _) rfl rfl (by kernel_rfl) (by kernel_rfl) (by kernel_rfl) (fun _ _ _ h => h) (Or.inl ⟨by rfl, ?h7⟩) (H5.out) ?_
    case h7 =>
      intro w hSw
      have t1 := Below.kept hSw H4.out.2
      have t2 := Below.kept hSw HW2.out.c7
      go_simp
      with_reducible rfl
    simp only [List.setIfInBounds_toArray, List.set_cons_zero, List.set_cons_succ]
    refine' take_at (i := 8) (d := 35) (v := _) rfl rfl (by kernel_rfl) (by kernel_rfl) (by kernel_rfl) (fun _ _ _ h => h) (Or.inl ⟨by rfl, ?h8⟩) (H5.out) ?_
    case h8 =>
      intro w hSw
      have t1 := Below.kept hSw H4.out.2
      have t2 := Below.kept hSw HW2.out.c7
      go_simp
      with_reducible rfl
    simp only [List.setIfInBounds_toArray, List.set_cons_zero, List.set_cons_succ]
    refine' take_at (i := 9) (d := 36) (v := _) rfl rfl (by kernel_rfl) (by kernel_rfl) (by kernel_rfl) (fun _ _ _ h => h) (Or.inl ⟨by rfl, ?h9⟩) (H5.out) ?_
    case h9 =>
      intro w hSw
      have t1 := Below.kept hSw H4.out.2
      have t2 := Below.kept hSw HW2.out.c7
      go_simp
      with_reducible rfl
    simp only [List.setIfInBounds_toArray, List.set_cons_zero, List.set_cons_succ]
    refine' take_at (i := 10) (d := 37) (v := undef) rfl rfl (by kernel_rfl) (by kernel_rfl) (by kernel_rfl) (fun _ _ _ h => h) (Or.inr ⟨by rfl, rfl⟩) (H5.out) ?_
    simp only [List.setIfInBounds_toArray, List.set_cons_zero, List.set_cons_succ]
    refine' take_at (i := 11) (d := 38) (v := undef) rfl rfl (by kernel_rfl) (by kernel_rfl) (by kernel_rfl) (fun _ _ _ h => h) (Or.inr ⟨by rfl, rfl⟩) (H5.out) ?_
    simp only [List.setIfInBounds_toArray, List.set_cons_zero, List.set_cons_succ]
    refine' take_at (i := 12) (d := 39) (v := undef) rfl rfl (by kernel_rfl) (by kernel_rfl) (by kernel_rfl) (fun _ _ _ h => h) (Or.inr ⟨by rfl, rfl⟩) (H5.out) ?_
    simp only [List.setIfInBounds_toArray, List.set_cons_zero, List.set_cons_succ]
    refine' take_at (i := 13) (d := 40) (v := undef) rfl rfl (by kernel_rfl) (by kernel_rfl) (by kernel_rfl) (fun _ _ _ h => h) (Or.inr ⟨by rfl, rfl⟩) (H5.out) ?_
    simp only [List.setIfInBounds_toArray, List.set_cons_zero, List.set_cons_succ]
    refine' take_at (i := 14) (d := 41) (v := undef) rfl rfl (by kernel_rfl) (by kernel_rfl) (by kernel_rfl) (fun _ _ _ h => h) (Or.inr ⟨by rfl, rfl⟩) (H5.out) ?_
    simp only [List.setIfInBounds_toArray, List.set_cons_zero, List.set_cons_succ]
    refine' take_at (i := 15) (d := 42) (v := undef) rfl rfl (by kernel_rfl) (by kernel_rfl) (by kernel_rfl) (fun _ _ _ h => h) (Or.inr ⟨by rfl, rfl⟩) (H5.out) ?_
    simp only [List.setIfInBounds_toArray, List.set_cons_zero, List.set_cons_succ]
    refine' take_at (i := 16) (d := 43) (v := undef) rfl rfl (by kernel_rfl) (by kernel_rfl) (by kernel_rfl) (fun _ _ _ h => h) (Or.inr ⟨by rfl, rfl⟩) (H5.out) ?_
    simp only [List.setIfInBounds_toArray, List.set_cons_zero, List.set_cons_succ]
    refine' take_at (i := 17) (d := 44) (v := undef) rfl rfl (by kernel_rfl) (by kernel_rfl) (by kernel_rfl) (fun _ _ _ h => h) (Or.inr ⟨by rfl, rfl⟩) (H5.out) ?_
    simp only [List.setIfInBounds_toArray, List.set_cons_zero, List.set_cons_succ]
    refine' take_at (i := 18) (d := 45) (v := undef) rfl rfl (by kernel_rfl) (by kernel_rfl) (by kernel_rfl) (fun _ _ _ h => h) (Or.inr ⟨by rfl, rfl⟩) (H5.out) ?_
    simp only [List.setIfInBounds_toArray, List.set_cons_zero, List.set_cons_succ]
    refine' take_at (i := 19) (d := 46) (v := undef) rfl rfl (by kernel_rfl) (by kernel_rfl) (by kernel_rfl) (fun _ _ _ h => h) (Or.inr ⟨by rfl, rfl⟩) (H5.out) ?_
    simp only [List.setIfInBounds_toArray, List.set_cons_zero, List.set_cons_succ]
    refine' take_at (i := 20) (d := 47) (v := undef) rfl rfl (by kernel_rfl) (by kernel_rfl) (by kernel_rfl) (fun _ _ _ h => h) (Or.inr ⟨by rfl, rfl⟩) (H5.out) ?_
    simp only [List.setIfInBounds_toArray, List.set_cons_zero, List.set_cons_succ]
    refine' take_at (i := 21) (d := 48) (v := undef) rfl rfl (by kernel_rfl) (by kernel_rfl) (by kernel_rfl) (fun _ _ _ h => h) (Or.inr ⟨by rfl, rfl⟩) (H5.out) ?_
    simp only [List.setIfInBounds_toArray, List.set_cons_zero, List.set_cons_succ]
    refine' take_at (i := 22) (d := 49) (v := undef) rfl rfl (by kernel_rfl) (by kernel_rfl) (by kernel_rfl) (fun _ _ _ h => h) (Or.inr ⟨by rfl, rfl⟩) (H5.out) ?_
    simp only [List.setIfInBounds_toArray, List.set_cons_zero, List.set_cons_succ]
    refine' take_at (i := 23) (d := 50) (v := undef) rfl rfl (by kernel_rfl) (by kernel_rfl) (by kernel_rfl) (fun _ _ _ h => h) (Or.inr ⟨by rfl, rfl⟩) (H5.out) ?_
    simp only [List.setIfInBounds_toArray, List.set_cons_zero, List.set_cons_succ]
    refine' take_at (i := 24) (d := 51) (v := undef) rfl rfl (by kernel_rfl) (by kernel_rfl) (by kernel_rfl) (fun _ _ _ h => h) (Or.inr ⟨by rfl, rfl⟩) (H5.out) ?_
    simp only [List.setIfInBounds_toArray, List.set_cons_zero, List.set_cons_succ]
    refine' take_at (i := 25) (d := 52) (v := undef) rfl rfl (by kernel_rfl) (by kernel_rfl) (by kernel_rfl) (fun _ _ _ h => h) (Or.inr ⟨by rfl, rfl⟩) (H5.out) ?_
    simp only [List.setIfInBounds_toArray, List.set_cons_zero, List.set_cons_succ]
    refine' take_at (i := 26) (d := 53) (v := undef) rfl rfl (by kernel_rfl) (by kernel_rfl) (by kernel_rfl) (fun _ _ _ h => h) (Or.inr ⟨by rfl, rfl⟩) (H5.out) ?_
    simp only [List.setIfInBounds_toArray, List.set_cons_zero, List.set_cons_succ]
    refine' take_at (i := 27) (d := 54) (v := undef) rfl rfl (by kernel_rfl) (by kernel_rfl) (by kernel_rfl) (fun _ _ _ h => h) (Or.inr ⟨by rfl, rfl⟩) (H5.out) ?_
    simp only [List.setIfInBounds_toArray, List.set_cons_zero, List.set_cons_succ]
    refine' take_at (i := 28) (d := 55) (v := _) rfl rfl (by kernel_rfl) (by kernel_rfl) (by kernel_rfl) (fun _ _ _ h => h) (Or.inl ⟨by rfl, ?h28⟩) (H5.out) ?_
    case h28 =>
      intro w hSw
      go_simp
      with_reducible rfl
    simp only [List.setIfInBounds_toArray, List.set_cons_zero, List.set_cons_succ]
    refine wpAnyH_done (by kernel_rfl) ?_ _
    go_wp2
    go_ret2
    rw [HT.out]
    exact ⟨rfl, H4.out.1.trans (H5.out.mono H4.out.1.size)⟩
  · have hW1 : (0 : Int) < (W : Int) := by omega
    have hWt : decide (0 < W) = true := by simp; omega
    obtain ⟨M, hM⟩ : ∃ M, M = Pt.made os := ⟨_, rfl⟩
    obtain ⟨L, hL⟩ : ∃ L, L = s.t.l.length := ⟨_, rfl⟩
    have HML : Hid (M = Pt.made os ∧ L = s.t.l.length) := ⟨hM, hL⟩
    have hMb : M ≤ 1000 := by rw [hM]; exact Nat.le_trans (made_le18 os) HV.out.2.1
    have hLb : L ≤ 500 := by rw [hL]; exact HV.out.2.2.2
    have hw1 : IntKind.wrap .i64 ((W : Int) + (L : Int)) = (W : Int) + (L : Int) := by rw [IntKind.wrap_i64]; omega
    have hw2 : IntKind.wrap .i64 ((W : Int) + (L : Int) + (M : Int)) = (W : Int) + (L : Int) + (M : Int) := by rw [IntKind.wrap_i64]; omega
    clear hM hL
    refine' take_at (i := 0) (d := 27) (v := _) rfl rfl (by kernel_rfl) (by kernel_rfl) (by kernel_rfl) (fun _ _ _ h => h) (Or.inl ⟨by rfl, ?h0⟩) (H5.out) ?_
    case h0 =>
      intro w hSw
      have t1 := Below.kept hSw H4.out.2
      have t2 := Below.kept hSw HW2.out.c7
      go_simp
      with_reducible rfl
    simp only [List.setIfInBounds_toArray, List.set_cons_zero, List.set_cons_succ]
    refine' take_at (i := 1) (d := 28) (v := _) rfl rfl (by kernel_rfl) (by kernel_rfl) (by kernel_rfl) (fun _ _ _ h => h) (Or.inl ⟨by rfl, ?h1⟩) (H5.out) ?_
    case h1 =>
      intro w hSw
      have t1 := Below.kept hSw H4.out.2
      have t2 := Below.kept hSw HW2.out.c7
      go_simp
      with_reducible rfl
    simp only [List.setIfInBounds_toArray, List.set_cons_zero, List.set_cons_succ]
    refine' take_at (i := 2) (d := 29) (v := _) rfl rfl (by kernel_rfl) (by kernel_rfl) (by kernel_rfl) (fun _ _ _ h => h) (Or.inl ⟨by rfl, ?h2⟩) (H5.out) ?_
    case h2 =>
      intro w hSw
      have t1 := Below.kept hSw H4.out.2
      have t2 := Below.kept hSw HW2.out.c7
      go_simp
      with_reducible rfl
    simp only [List.setIfInBounds_toArray, List.set_cons_zero, List.set_cons_succ]
    refine' take_at (i := 3) (d := 30) (v := _) rfl rfl (by kernel_rfl) (by kernel_rfl) (by kernel_rfl) (fun _ _ _ h => h) (Or.inl ⟨by rfl, ?h3⟩) (H5.out) ?_
    case h3 =>
      intro w hSw
      have t1 := Below.kept hSw H4.out.2
      have t2 := Below.kept hSw HW2.out.c7
      go_simp
      with_reducible rfl
    simp only [List.setIfInBounds_toArray, List.set_cons_zero, List.set_cons_succ]
    refine' take_at (i := 4) (d := 31) (v := _) rfl rfl (by kernel_rfl) (by kernel_rfl) (by kernel_rfl) (fun _ _ _ h => h) (Or.inl ⟨by rfl, ?h4⟩) (H5.out) ?_
    case h4 =>
      intro w hSw
      have t1 := Below.kept hSw H4.out.2
      have t2 := Below.kept hSw HW2.out.c7
      go_simp
      with_reducible rfl
    simp only [List.setIfInBounds_toArray, List.set_cons_zero, List.set_cons_succ]
    refine' take_at (i := 5) (d := 32) (v := _) rfl rfl (by kernel_rfl) (by kernel_rfl) (by kernel_rfl) (fun _ _ _ h => h) (Or.inl ⟨by rfl, ?h5⟩) (H5.out) ?_
    case h5 =>
      intro w hSw
      have t1 := Below.kept hSw H4.out.2
      have t2 := Below.kept hSw HW2.out.c7
      go_simp
      with_reducible rfl
    simp only [List.setIfInBounds_toArray, List.set_cons_zero, List.set_cons_succ]
    refine' take_at (i := 6) (d := 33) (v := _) rfl rfl (by kernel_rfl) (by kernel_rfl) (by kernel_rfl) (fun _ _ _ h => h) (Or.inl ⟨by rfl, ?h6⟩) (H5.out) ?_
    case h6 =>
      intro w hSw
      have t1 := Below.kept hSw H4.out.2
      have t2 := Below.kept hSw HW2.out.c7
      go_simp
      with_reducible rfl
    simp only [List.setIfInBounds_toArray, List.set_cons_zero, List.set_cons_succ]
    refine' take_at (i := 7) (d := 34) (v := _) rfl rfl (by kernel_rfl) (by kernel_rfl) (by kernel_rfl) (fun _ _ _ h => h) (Or.inl ⟨by rfl, ?h7⟩) (H5.out) ?_
    case h7 =>
      intro w hSw
      have t1 := Below.kept hSw H4.out.2
      have t2 := Below.kept hSw HW2.out.c7
      go_simp
      with_reducible rfl
    simp only [List.setIfInBounds_toArray, List.set_cons_zero, List.set_cons_succ]
    refine' take_at (i := 8) (d := 35) (v := _) rfl rfl (by kernel_rfl) (by kernel_rfl) (by kernel_rfl) (fun _ _ _ h => h) (Or.inl ⟨by rfl, ?h8⟩) (H5.out) ?_
    case h8 =>
      intro w hSw
      have t1 := Below.kept hSw H4.out.2
      have t2 := Below.kept hSw HW2.out.c7
      go_simp
      with_reducible rfl
    simp only [List.setIfInBounds_toArray, List.set_cons_zero, List.set_cons_succ]
    refine' take_at (i := 9) (d := 36) (v := _) rfl rfl (by kernel_rfl) (by kernel_rfl) (by kernel_rfl) (fun _ _ _ h => h) (Or.inl ⟨by rfl, ?h9⟩) (H5.out) ?_
    case h9 =>
      intro w hSw
      have t1 := Below.kept hSw H4.out.2
      have t2 := Below.kept hSw HW2.out.c7
      go_simp
      with_reducible rfl
    simp only [List.setIfInBounds_toArray, List.set_cons_zero, List.set_cons_succ]
    refine' take_at (i := 10) (d := 37) (v := _) rfl rfl (by kernel_rfl) (by kernel_rfl) (by kernel_rfl) (fun _ _ _ h => h) (Or.inl ⟨by rfl, ?h10⟩) (H5.out) ?_
    case h10 =>
      intro w hSw
      have t1 := Below.kept hSw H4.out.2
      have t2 := Below.kept hSw HW2.out.c7
      have t3 := Below.kept hSw HW2.out.c0
      have t4 := Below.kept hSw HW2.out.c1
      go_simp
      with_reducible rfl
    simp only [List.setIfInBounds_toArray, List.set_cons_zero, List.set_cons_succ]
    refine' take_at (i := 11) (d := 38) (v := _) rfl rfl (by kernel_rfl) (by kernel_rfl) (by kernel_rfl) (fun _ _ _ h => h) (Or.inl ⟨by rfl, ?h11⟩) (H5.out) ?_
    case h11 =>
      intro w hSw
      have t1 := Below.kept hSw H4.out.2
      have t2 := Below.kept hSw HW2.out.c7
      have t3 := Below.kept hSw HW2.out.c0
      have t4 := Below.kept hSw HW2.out.c1
      go_simp
      with_reducible rfl
    simp only [List.setIfInBounds_toArray, List.set_cons_zero, List.set_cons_succ]
    refine' take_at (i := 12) (d := 39) (v := _) rfl rfl (by kernel_rfl) (by kernel_rfl) (by kernel_rfl) (fun _ _ _ h => h) (Or.inl ⟨by rfl, ?h12⟩) (H5.out) ?_
    case h12 =>
      intro w hSw
      have t1 := Below.kept hSw H4.out.2
      have t2 := Below.kept hSw HW2.out.c7
      have t3 := Below.kept hSw HW2.out.c0
      have t4 := Below.kept hSw HW2.out.c1
      go_simp
      with_reducible rfl
    simp only [List.setIfInBounds_toArray, List.set_cons_zero, List.set_cons_succ]
    refine' take_at (i := 13) (d := 40) (v := _) rfl rfl (by kernel_rfl) (by kernel_rfl) (by kernel_rfl) (fun _ _ _ h => h) (Or.inl ⟨by rfl, ?h13⟩) (H5.out) ?_
    case h13 =>
      intro w hSw
      have t1 := Below.kept hSw H4.out.2
      have t2 := Below.kept hSw HW2.out.c7
      have t3 := Below.kept hSw HW2.out.c0
      have t4 := Below.kept hSw HW2.out.c1
      go_simp
      with_reducible rfl
    simp only [List.setIfInBounds_toArray, List.set_cons_zero, List.set_cons_succ]
    refine' take_at (i := 14) (d := 41) (v := _) rfl rfl (by kernel_rfl) (by kernel_rfl) (by kernel_rfl) (fun _ _ _ h => h) (Or.inl ⟨by rfl, ?h14⟩) (H5.out) ?_
    case h14 =>
      intro w hSw
      have t1 := Below.kept hSw H4.out.2
      have t2 := Below.kept hSw HW2.out.c7
      have t3 := Below.kept hSw HW2.out.c0
      have t4 := Below.kept hSw HW2.out.c1
      go_simp
      with_reducible rfl
    simp only [List.setIfInBounds_toArray, List.set_cons_zero, List.set_cons_succ]
    refine' take_at (i := 15) (d := 42) (v := _) rfl rfl (by kernel_rfl) (by kernel_rfl) (by kernel_rfl) (fun _ _ _ h => h) (Or.inl ⟨by rfl, ?h15⟩) (H5.out) ?_
    case h15 =>
      intro w hSw
      have t1 := Below.kept hSw H4.out.2
      have t2 := Below.kept hSw HW2.out.c7
      have t3 := Below.kept hSw HW2.out.c0
      have t4 := Below.kept hSw HW2.out.c1
      go_simp
      with_reducible rfl
    simp only [List.setIfInBounds_toArray, List.set_cons_zero, List.set_cons_succ]
    refine' take_at (i := 16) (d := 43) (v := _) rfl rfl (by kernel_rfl) (by kernel_rfl) (by kernel_rfl) (fun _ _ _ h => h) (Or.inl ⟨by rfl, ?h16⟩) (H5.out) ?_
    case h16 =>
      intro w hSw
      have t1 := Below.kept hSw H4.out.2
      have t2 := Below.kept hSw HW2.out.c7
      have t3 := Below.kept hSw HW2.out.c0
      have t4 := Below.kept hSw HW2.out.c1
      go_simp
      with_reducible rfl
    simp only [List.setIfInBounds_toArray, List.set_cons_zero, List.set_cons_succ]
    refine' take_at (i := 17) (d := 44) (v := _) rfl rfl (by kernel_rfl) (by kernel_rfl) (by kernel_rfl) (fun _ _ _ h => h) (Or.inl ⟨by rfl, ?h17⟩) (H5.out) ?_
    case h17 =>
      intro w hSw
      have t1 := Below.kept hSw H4.out.2
      have t2 := Below.kept hSw HW2.out.c7
      have t3 := Below.kept hSw HW2.out.c0
      have t4 := Below.kept hSw HW2.out.c1
      go_simp
      with_reducible rfl
    simp only [List.setIfInBounds_toArray, List.set_cons_zero, List.set_cons_succ]
    refine' take_at (i := 20) (d := 47) (v := _) rfl rfl (by kernel_rfl) (by kernel_rfl) (by kernel_rfl) (fun _ _ _ h => h) (Or.inl ⟨by rfl, ?h20⟩) (H5.out) ?_
    case h20 =>
      intro w hSw
      have t1 := Below.kept hSw H4.out.2
      have t2 := Below.kept hSw HW2.out.c7
      have t3 := Below.kept hSw HW2.out.c0
      have t4 := Below.kept hSw HW2.out.c1
      go_simp
      with_reducible rfl
    simp only [List.setIfInBounds_toArray, List.set_cons_zero, List.set_cons_succ]
    refine' take_at (i := 23) (d := 50) (v := _) rfl rfl (by kernel_rfl) (by kernel_rfl) (by kernel_rfl) (fun _ _ _ h => h) (Or.inl ⟨by rfl, ?h23⟩) (H5.out) ?_
    case h23 =>
      intro w hSw
      have t1 := Below.kept hSw H4.out.2
      have t2 := Below.kept hSw HW2.out.c7
      have t3 := Below.kept hSw HW2.out.c0
      have t4 := Below.kept hSw HW2.out.c1
      go_simp
      with_reducible rfl
    simp only [List.setIfInBounds_toArray, List.set_cons_zero, List.set_cons_succ]
    refine' take_at (i := 24) (d := 51) (v := _) rfl rfl (by kernel_rfl) (by kernel_rfl) (by kernel_rfl) (fun _ _ _ h => h) (Or.inl ⟨by rfl, ?h24⟩) (H5.out) ?_
    case h24 =>
      intro w hSw
      have t1 := Below.kept hSw H4.out.2
      have t2 := Below.kept hSw HW2.out.c7
      have t3 := Below.kept hSw HW2.out.c0
      have t4 := Below.kept hSw HW2.out.c1
      go_simp
      with_reducible rfl
    simp only [List.setIfInBounds_toArray, List.set_cons_zero, List.set_cons_succ]
    refine' take_at (i := 25) (d := 52) (v := _) rfl rfl (by kernel_rfl) (by kernel_rfl) (by kernel_rfl) (fun _ _ _ h => h) (Or.inl ⟨by rfl, ?h25⟩) (H5.out) ?_
    case h25 =>
      intro w hSw
      have t1 := Below.kept hSw H4.out.2
      have t2 := Below.kept hSw HW2.out.c7
      have t3 := Below.kept hSw HW2.out.c0
      have t4 := Below.kept hSw HW2.out.c1
      go_simp
      with_reducible rfl
    simp only [List.setIfInBounds_toArray, List.set_cons_zero, List.set_cons_succ]
    refine' take_at (i := 26) (d := 53) (v := _) rfl rfl (by kernel_rfl) (by kernel_rfl) (by kernel_rfl) (fun _ _ _ h => h) (Or.inl ⟨by rfl, ?h26⟩) (H5.out) ?_
    case h26 =>
      intro w hSw
      have t1 := Below.kept hSw H4.out.2
      have t2 := Below.kept hSw HW2.out.c7
      have t3 := Below.kept hSw HW2.out.c0
      have t4 := Below.kept hSw HW2.out.c1
      go_simp
      with_reducible rfl
    simp only [List.setIfInBounds_toArray, List.set_cons_zero, List.set_cons_succ]
    refine wpAnyH_ready (rs := [18]) (by kernel_rfl) (by simp) ?_
    refine AllReadyH.cons (o := _) rfl (fun KQ hKQ => ?_) AllReadyH.nil
    go_simp
    refine (HH.out.1.q.len qt s.t Ft w5 (HW2.out.below HH.out.1.t HH.out.1.l H5.out).tr).mono ?_
    rintro e w6 ⟨rfl, hb⟩
    rw [← HML.out.2]
    have H6 : Hid (Below w4.heap.size w4 w6) := H5.out.trans (hb.mono H5.out.size)
    clear hb
    refine hKQ.out _ _ H6.out (fun _ => ?_)
    clear hKQ KQ
    refine' take_at (i := 19) (d := 46) (v := _) rfl rfl (by kernel_rfl) (by kernel_rfl) (by kernel_rfl) (fun _ _ _ h => h) (Or.inl ⟨by rfl, ?h19⟩) (H6.out) ?_
    case h19 =>
      intro w hSw
      go_simp
      with_reducible rfl
    simp only [List.setIfInBounds_toArray, List.set_cons_zero, List.set_cons_succ]
    refine wpAnyH_ready (rs := [21]) (by kernel_rfl) (by simp) ?_
    refine AllReadyH.cons (o := _) rfl (fun KQ hKQ => ?_) AllReadyH.nil
    go_simp
    refine (made_any18 (.slice av N cc) os w6 (ol_keep18 HV.out.1 (fun _ k _ hl => (H4.out.1.trans (H6.out.mono H4.out.1.size)).block k hl)) HV.out.2.1).mono ?_
    rintro e w7 ⟨rfl, hb⟩
    rw [← HML.out.1]
    have H7 : Hid (Below w4.heap.size w4 w7) := H6.out.trans (hb.mono H6.out.size)
    clear hb
    refine hKQ.out _ _ H7.out (fun _ => ?_)
    clear hKQ KQ
    refine' take_at (i := 22) (d := 49) (v := _) rfl rfl (by kernel_rfl) (by kernel_rfl) (by kernel_rfl) (fun _ _ _ h => h) (Or.inl ⟨by rfl, ?h22⟩) (H7.out) ?_
    case h22 =>
      intro w hSw
      go_simp
      with_reducible rfl
    simp only [List.setIfInBounds_toArray, List.set_cons_zero, List.set_cons_succ]
    refine' take_at (i := 27) (d := 54) (v := _) rfl rfl (by kernel_rfl) (by kernel_rfl) (by kernel_rfl) (fun _ _ _ h => h) (Or.inl ⟨by rfl, ?h27⟩) (H7.out) ?_
    case h27 =>
      intro w hSw
      go_simp
      with_reducible rfl
    simp only [List.setIfInBounds_toArray, List.set_cons_zero, List.set_cons_succ]
    refine' take_at (i := 28) (d := 55) (v := _) rfl rfl (by kernel_rfl) (by kernel_rfl) (by kernel_rfl) (fun _ _ _ h => h) (Or.inl ⟨by rfl, ?h28⟩) (H7.out) ?_
    case h28 =>
      intro w hSw
      go_simp
      with_reducible rfl
    simp only [List.setIfInBounds_toArray, List.set_cons_zero, List.set_cons_succ]
    refine wpAnyH_done (by kernel_rfl) ?_ _
    cases hB : decide (s.t.room < (W : Int) + (L : Int) + (M : Int)) with
    | true =>
      have HT : Hid (R = (12, (k : Int))) := (show R = (12, (k : Int)) by
        rw [HR.out]
        unfold Pt.refusal
        rw [if_neg (by rw [← HE.out]; simp), HN.out]
        simp only [HWW.out.2.1]
        unfold Pt.full
        rw [← HWW.out.1, ← HML.out.1, ← HML.out.2, if_pos]
        have h1 := of_decide_eq_true hB
        simp only [Bool.and_eq_true, decide_eq_true_eq]
        omega)
      have hB2 := of_decide_eq_true hB
      go_wp2
      go_ret2
      rw [HT.out]
      exact ⟨rfl, H4.out.1.trans (H7.out.mono H4.out.1.size)⟩
    | false =>
      have HT : Hid (R = (0, -1)) := (show R = (0, -1) by
        rw [HR.out]
        unfold Pt.refusal
        rw [if_neg (by rw [← HE.out]; simp), HN.out]
        simp only [HWW.out.2.1]
        unfold Pt.full
        rw [← HWW.out.1, ← HML.out.1, ← HML.out.2, if_neg]
        have h1 := of_decide_eq_false hB
        simp only [Bool.and_eq_true, decide_eq_true_eq]
        omega)
      have hB2 := of_decide_eq_false hB
      go_wp2
      go_ret2
      rw [HT.out]
      exact ⟨rfl, H4.out.1.trans (H7.out.mono H4.out.1.size)⟩
end
end Go.Proofs.YtboejbjobjhajaaGreatDoor
