/- What the reference's Make answers. -/
import Derived.Test.YtjimemnkmpapgaaGreatDoorWr19
import Derived.Test.YtjimemnkmpapgaaGreatDoorRefS16
import Derived.Test.YtjimemnkmpapgaaGreatDoorRm19
namespace Go.Proofs.YtjimemnkmpapgaaGreatDoor
open Go.RowKit

/-- The shards so far, and their places. -/
structure Mr19 (w5 w : World) (pb : Nat) (s n : Int) (u va vb : Value) (ls : List (List Int)) (us : List Value) : Prop where
  blk : Cb w pb [.int .i64 s, .int .i64 n, u, va, vb] 57
  sh : w.ownsRow w5.heap.size 3 1 va (Pn.shA 0 ls).length (KI.cs (Pn.shA 0 ls))
  pl : w.ownsRow w5.heap.size 27 1 vb us.length (KS.cs us)
  len : us.length = (Pn.plA ls).length
  at_ : ∀ (j : Nat) x l, us[j]? = some x → (Pn.plA ls)[j]? = some l → KI.At w5 x l ∧ x.oneCell' = true ∧ ∀ b, x.ownBlock = some b → pb < b
  grown : w5.grownBy w (some pb)
  lt : pb < w5.heap.size
/-- A number more is there. -/
theorem Mr19.num {w5 w w7 : World} {pb : Nat} {s n : Int} {u va vb v7 : Value} {ls : List (List Int)} {us : List Value} {z : Int} (h : Mr19 w5 w pb s n u va vb ls us) (o : Obj)
    (hr : w7.ownsRow w5.heap.size 3 1 v7 (Pn.shA 0 ls ++ [z]).length (KI.cs (Pn.shA 0 ls ++ [z]))) (hb : Below w5.heap.size (w.alloc o) w7) (hg : (w.alloc o).grownBy w7 va.ownBlock) :
    Cb (w7.setCell ⟨pb, 3, none⟩ v7) pb [.int .i64 s, .int .i64 n, u, v7, vb] 57 ∧ (w7.setCell ⟨pb, 3, none⟩ v7).ownsRow w5.heap.size 3 1 v7 (Pn.shA 0 ls ++ [z]).length (KI.cs (Pn.shA 0 ls ++ [z])) ∧
    (w7.setCell ⟨pb, 3, none⟩ v7).ownsRow w5.heap.size 27 1 vb us.length (KS.cs us) ∧ w5.grownBy (w7.setCell ⟨pb, 3, none⟩ v7) (some pb) ∧ Cb w7 pb [.int .i64 s, .int .i64 n, u, va, vb] 57 := by
  have hlt := h.lt
  have hba := (Below.refl _ w).alloc (Nat.le_refl _) o
  have hs := grownBy_setCell w7 ⟨pb, 3, none⟩ v7
  have hba5 : Below w5.heap.size w (w.alloc o) := hba.mono h.grown.size
  have hcb : Cb w7 pb [.int .i64 s, .int .i64 n, u, va, vb] 57 := (h.blk.below hba).keep (hb.block pb hlt)
  have hvb : w7.ownsRow w5.heap.size 27 1 vb us.length (KS.cs us) := by
    have h1 := h.pl.alloc o
    refine row_stays h1 fun k hk => hg.block k (h1.lt k hk).2 (fun e => ?_)
    exact rows_apart19 (h.sh.alloc o) h1 (by decide) k hk e.symm
  refine ⟨hcb.set 3 v7, ?_, ?_, ?_, hcb⟩
  · exact row_stays hr fun k hk => hs.block k (hr.lt k hk).2 (by have := (hr.lt k hk).1; simp; omega)
  · exact row_stays hvb fun k hk => hs.block k (hvb.lt k hk).2 (by have := (hvb.lt k hk).1; simp; omega)
  · exact grownBy_trans (grown_low19 h.grown (hba5.trans hb)) hs
/-- And its places. -/
theorem Mr19.places {w5 w8 w9 : World} {pb : Nat} {s n : Int} {u vb v7 v9 x : Value} {ls : List (List Int)} {us : List Value} {z : Int} {l : List Int} (o : Obj) (hl : ∀ (j : Nat) x l, us[j]? = some x → (Pn.plA ls)[j]? = some l → KI.At w5 x l ∧ x.oneCell' = true ∧ ∀ b, x.ownBlock = some b → pb < b) (hlen : us.length = (Pn.plA ls).length) (hlt : pb < w5.heap.size)
    (hcb : Cb w8 pb [.int .i64 s, .int .i64 n, u, v7, vb] 57) (hsh : w8.ownsRow w5.heap.size 3 1 v7 (Pn.shA 0 ls ++ [z]).length (KI.cs (Pn.shA 0 ls ++ [z]))) (hpl : w8.ownsRow w5.heap.size 27 1 vb us.length (KS.cs us)) (hgr : w5.grownBy w8 (some pb))
    (hr : w9.ownsRow w5.heap.size 27 1 v9 (us ++ [x]).length (KS.cs (us ++ [x]))) (hb : Below w5.heap.size (w8.alloc o) w9) (hg : (w8.alloc o).grownBy w9 vb.ownBlock)
    (hx : KI.At w5 x l ∧ x.oneCell' = true ∧ ∀ b, x.ownBlock = some b → pb < b) (h0 : l ≠ []) (hz : z = (ls.length : Int)) : Mr19 w5 (w9.setCell ⟨pb, 4, none⟩ v9) pb s n u v7 v9 (ls ++ [l]) (us ++ [x]) ∧ Cb w9 pb [.int .i64 s, .int .i64 n, u, v7, vb] 57 := by
  have hba := (Below.refl _ w8).alloc (Nat.le_refl _) o
  have hs := grownBy_setCell w9 ⟨pb, 4, none⟩ v9
  have hba5 : Below w5.heap.size w8 (w8.alloc o) := hba.mono hgr.size
  have hcb9 : Cb w9 pb [.int .i64 s, .int .i64 n, u, v7, vb] 57 := (hcb.below hba).keep (hb.block pb hlt)
  have hva : w9.ownsRow w5.heap.size 3 1 v7 (Pn.shA 0 ls ++ [z]).length (KI.cs (Pn.shA 0 ls ++ [z])) := by
    have h1 := hsh.alloc o
    refine row_stays h1 fun k hk => hg.block k (h1.lt k hk).2 (fun e => ?_)
    exact rows_apart19 (hpl.alloc o) h1 (by decide) k hk e.symm
  have e1 : Pn.shA 0 (ls ++ [l]) = Pn.shA 0 ls ++ [z] := by rw [Pn.shA_snoc, if_neg h0, hz, Nat.zero_add]
  have e2 : Pn.plA (ls ++ [l]) = Pn.plA ls ++ [l] := by rw [Pn.plA_snoc, if_neg h0]
  refine ⟨⟨hcb9.set 4 v9, ?_, ?_, by rw [e2, List.length_append, List.length_append, hlen]; rfl, fun j y l' hy hl' => ?_, grownBy_trans (grown_low19 hgr (hba5.trans hb)) hs, hlt⟩, hcb9⟩
  · rw [e1]
    exact row_stays hva fun k hk => hs.block k (hva.lt k hk).2 (by have := (hva.lt k hk).1; simp; omega)
  · exact row_stays hr fun k hk => hs.block k (hr.lt k hk).2 (by have := (hr.lt k hk).1; simp; omega)
  · rw [e2] at hl'
    by_cases hj : j < us.length
    · rw [List.getElem?_append_left hj] at hy
      rw [List.getElem?_append_left (by omega)] at hl'
      exact hl j y l' hy hl'
    · rw [List.getElem?_append_right (by omega)] at hy
      rw [List.getElem?_append_right (by omega)] at hl'
      have e3 : j - us.length = 0 := by
        have := (List.getElem?_eq_some_iff.1 hy).1
        simp at this
        omega
      rw [← hlen, e3] at hl'
      rw [e3] at hy
      obtain rfl := Option.some.inj hy
      obtain rfl := Option.some.inj hl'
      exact hx
/-- What Make tells. -/
def MrP (w : World) (t : Tb.St) (s n : Int) (os : List O) (e : Ending) (w' : World) : Prop := Below w.heap.size w w' ∧
  (Oq.may s n os ≠ 0 → e = .returned (.tuple #[pv Pn.zero nilv nilv nilv, .int .i64 (Oq.may s n os)])) ∧
  (Oq.may s n os = 0 → ∃ u a b, e = .returned (.tuple #[pv (Pn.of t s n os) u a b, .int .i64 0]) ∧ Pv w' (Pn.of t s n os) u a b)
set_option maxRecDepth 20000 in
set_option maxHeartbeats 8000000 in
theorem refMake_any19 (q : Nat) (t : Tb.St) (F : Nat → Prop) (m : Int) (s n : Int) (u : Value) (os : List O) (w : World) (hL : LRb w q t F) (ht : Tb.Fine m t) (hS : Pa.Std w) (hu : Ol w u os) (hl : os.length ≤ maxLen) (hf : ∀ o ∈ os, Fit o) :
    Calls Tryz.prog 16 #[dptr q, .agg #[.int .i64 s, .int .i64 n, u]] w (MrP w t s n os) := by
  obtain ⟨ux, uk, uc, rfl, huk, _⟩ := id hu
  obtain ⟨N, hN⟩ : ∃ N, N = os.length := ⟨_, rfl⟩
  rw [huk, ← hN] at hu ⊢
  have H : Hid (Ol w (.slice ux N uc) os ∧ Pa.Std w ∧ os.length ≤ maxLen ∧ (∀ o ∈ os, Fit o) ∧ LRb w q t F ∧ Tb.Fine m t ∧ N = os.length) := ⟨hu, hS, hl, hf, hL, ht, hN⟩
  obtain ⟨e0, he0⟩ : ∃ e, e = Oq.may s n os := ⟨_, rfl⟩
  have HE : Hid (e0 = Oq.may s n os) := he0
  have HM : Hid (∀ w', Pa.Std w' → Ol w' (.slice ux N uc) os → Calls Tryz.prog 41 #[.agg #[.int .i64 s, .int .i64 n, .slice ux N uc]] w' fun e w'' => e = .returned (.int .i64 e0) ∧ Below w'.heap.size w' w'') := fun w' _ h2 => by
    rw [he0]
    exact refMay_any s n _ os w' h2 (fun o ho => ⟨(hf o ho).path, (hf o ho).data⟩)
  clear hS hu hl hf he0 hL ht huk hN
  unfold dptr
  obtain ⟨rb, hrb⟩ : ∃ z, z = w.heap.size := ⟨_, rfl⟩
  obtain ⟨cb, hcb⟩ : ∃ z, z = w.heap.size + 1 := ⟨_, rfl⟩
  have H0 : Hid (Below w.heap.size w ((w.alloc (.cells #[.int .i64 s, .int .i64 n, .slice ux N uc] 55)).alloc (.cells #[.int .i64 0, .int .i64 0, .slice none 0 0, .slice none 0 0, .slice none 0 0] 57)) ∧ Cb ((w.alloc (.cells #[.int .i64 s, .int .i64 n, .slice ux N uc] 55)).alloc (.cells #[.int .i64 0, .int .i64 0, .slice none 0 0, .slice none 0 0, .slice none 0 0] 57)) rb [.int .i64 s, .int .i64 n, .slice ux N uc] 55 ∧ Cb ((w.alloc (.cells #[.int .i64 s, .int .i64 n, .slice ux N uc] 55)).alloc (.cells #[.int .i64 0, .int .i64 0, .slice none 0 0, .slice none 0 0, .slice none 0 0] 57)) cb [.int .i64 0, .int .i64 0, .slice none 0 0, .slice none 0 0, .slice none 0 0] 57 ∧ rb ≠ cb ∧ w.heap.size ≤ rb ∧ w.heap.size ≤ cb) := by
    have h1 := (Below.refl _ w).alloc (Nat.le_refl _) (.cells #[.int .i64 s, .int .i64 n, .slice ux N uc] 55)
    have h2 := (Below.refl _ (w.alloc (.cells #[.int .i64 s, .int .i64 n, .slice ux N uc] 55))).alloc (Nat.le_refl _) (.cells #[.int .i64 0, .int .i64 0, .slice none 0 0, .slice none 0 0, .slice none 0 0] 57)
    have h3 := Cb.made (w.alloc (.cells #[.int .i64 s, .int .i64 n, .slice ux N uc] 55)) [.int .i64 0, .int .i64 0, .slice none 0 0, .slice none 0 0, .slice none 0 0] 57
    rw [World.size_alloc] at h3
    rw [hrb, hcb]
    exact ⟨h1.trans (h2.mono h1.size), (Cb.made w [.int .i64 s, .int .i64 n, .slice ux N uc] _).below h2, h3, by omega, by omega, by omega⟩
  go_enter Tryz.func16, Tryz.ntmps16
  go_wp2_with fail
  rw [← hcb, ← hrb]
  clear hcb hrb
  generalize ((w.alloc (.cells #[.int .i64 s, .int .i64 n, .slice ux N uc] 55)).alloc (.cells #[.int .i64 0, .int .i64 0, .slice none 0 0, .slice none 0 0, .slice none 0 0] 57)) = w0 at *
  refine (HM.out w0 (H.out.2.1.below H0.out.1) (H.out.1.below H0.out.1)).mono ?_
  rintro e w1 ⟨rfl, hb⟩
  have H1 : Hid (Below w.heap.size w w1 ∧ Cb w1 rb [.int .i64 s, .int .i64 n, .slice ux N uc] 55 ∧ Cb w1 cb [.int .i64 0, .int .i64 0, .slice none 0 0, .slice none 0 0, .slice none 0 0] 57) := ⟨H0.out.1.trans (hb.mono H0.out.1.size), H0.out.2.1.below hb, H0.out.2.2.1.below hb⟩
  clear hb HM
  by_cases he : e0 = 0
  · have hb0 : (e0 != 0) = false := by simp [he]
    have HE0 : Hid (Oq.may s n os = 0) := HE.out.symm.trans he
    have HZ : Hid (os ≠ [] ∧ os.length ≤ 16 ∧ ∀ o ∈ os, o.path.size ≤ 200) := by
      obtain ⟨_, _, h1, h2, h3⟩ := may_sizes HE0.out
      exact ⟨fun e => (by rw [e] at h1; simp at h1), h2, fun o ho => (h3 o ho).1⟩
    clear he HE
    have r0 : w1.cell? ⟨rb, 0, none⟩ = some (.int .i64 s) := H1.out.2.1.cell 0
    have r1 : w1.cell? ⟨rb, 1, none⟩ = some (.int .i64 n) := H1.out.2.1.cell 1
    have r2 : w1.cell? ⟨rb, 2, none⟩ = some (.slice ux N uc) := H1.out.2.1.cell 2
    obtain ⟨pb, hpb⟩ : ∃ z, z = w1.heap.size := ⟨_, rfl⟩
    have H4 : Hid (Ol (w1.alloc (.cells #[.int .i64 s, .int .i64 n, (.slice ux N uc), .slice none 0 0, .slice none 0 0] 57)) (.slice ux N uc) os ∧ Below w.heap.size w (w1.alloc (.cells #[.int .i64 s, .int .i64 n, (.slice ux N uc), .slice none 0 0, .slice none 0 0] 57)) ∧ Cb (w1.alloc (.cells #[.int .i64 s, .int .i64 n, (.slice ux N uc), .slice none 0 0, .slice none 0 0] 57)) rb [.int .i64 s, .int .i64 n, (.slice ux N uc)] 55 ∧ Cb (w1.alloc (.cells #[.int .i64 s, .int .i64 n, (.slice ux N uc), .slice none 0 0, .slice none 0 0] 57)) cb [.int .i64 0, .int .i64 0, .slice none 0 0, .slice none 0 0, .slice none 0 0] 57 ∧ Cb (w1.alloc (.cells #[.int .i64 s, .int .i64 n, (.slice ux N uc), .slice none 0 0, .slice none 0 0] 57)) pb [.int .i64 s, .int .i64 n, (.slice ux N uc), .slice none 0 0, .slice none 0 0] 57 ∧ w.heap.size ≤ pb ∧ cb < pb ∧ w.heap.size ≤ pb) := by
      have hb2 := (Below.refl _ w1).alloc (Nat.le_refl _) (.cells #[.int .i64 s, .int .i64 n, (.slice ux N uc), .slice none 0 0, .slice none 0 0] 57)
      have h3 := Cb.made w1 [.int .i64 s, .int .i64 n, (.slice ux N uc), .slice none 0 0, .slice none 0 0] 57
      rw [← hpb] at h3
      have h6 := H1.out.2.2.lt
      have h7 := H1.out.1.size
      have h8 := H1.out.1.trans (hb2.mono H1.out.1.size)
      exact ⟨H.out.1.below h8, h8, H1.out.2.1.below hb2, H1.out.2.2.below hb2, h3, by omega, by omega, by omega⟩
    go_upto_region 5 with fail
    rw [← hpb]
    clear hpb r0 r1 r2
    generalize (w1.alloc (.cells #[.int .i64 s, .int .i64 n, (.slice ux N uc), .slice none 0 0, .slice none 0 0] 57)) = w4 at *
    have d2 : w4.cell? ⟨rb, 2, none⟩ = some (.slice ux N uc) := H4.out.2.2.1.cell 2
    obtain ⟨ls, hls⟩ : ∃ l, l = Tb.split t (os.map O.path) := ⟨_, rfl⟩
    obtain ⟨S, hS⟩ : ∃ S, S = t.shards.toNat := ⟨_, rfl⟩
    have HLS : Hid (ls = Tb.split t (os.map O.path) ∧ ls.length = S ∧ S ≤ 4 ∧ ∀ l ∈ ls, l.length ≤ 16) := by
      have h1 := H.out.2.2.2.2.2.1.sh2
      have h2 := H.out.2.2.2.2.2.1.sh1
      refine ⟨hls, by rw [hls, Tb.split_len, hS], by omega, fun l hl => ?_⟩
      obtain ⟨k, hk⟩ := List.mem_iff_getElem?.1 hl
      rw [hls] at hk
      rw [(Tb.split_at hk).2]
      have h3 := Tb.places_len (Tb.of t) (os.map O.path) (k : Int)
      rw [List.length_map] at h3
      have := HZ.out.2.1
      omega
    have hS4 : S ≤ 4 := HLS.out.2.2.1
    have HSP : Hid (Calls Tryz.prog 42 #[dptr q, (.slice ux N uc)] w4 fun e w' => ∃ g us, e = .returned (.slice (some ⟨g, 0, none⟩) S S) ∧ Sp16 w4.heap.size w' g us ls ∧ Below w4.heap.size w4 w') := by
      refine (refSplit_own16 q t F m (.slice ux N uc) os w4 (LRb.keep H.out.2.2.2.2.1 fun k hk => H4.out.2.1.block k (LRb.lt H.out.2.2.2.2.1 hk)) H.out.2.2.2.2.2.1 H4.out.1 (by have := HZ.out.2.1; omega) (fun o ho => by have := HZ.out.2.2 o ho; unfold maxLen; omega)).mono ?_
      rintro e w' ⟨S', g, us, rfl, hS', hsp, hb⟩
      rw [← hS] at hS'
      subst hS'
      rw [← hls] at hsp
      exact ⟨g, us, rfl, hsp, hb⟩
    clear hls hS
    go_wp2_with fail
    refine HSP.out.mono ?_
    rintro e w5 ⟨g5, uz, rfl, hsp, hb⟩
    have H5 : Hid (Sp16 w4.heap.size w5 g5 uz ls ∧ Ol w5 (.slice ux N uc) os ∧ Below w.heap.size w w5 ∧ Cb w5 cb [.int .i64 0, .int .i64 0, .slice none 0 0, .slice none 0 0, .slice none 0 0] 57 ∧ Cb w5 pb [.int .i64 s, .int .i64 n, (.slice ux N uc), .slice none 0 0, .slice none 0 0] 57 ∧ pb < w4.heap.size) := ⟨hsp, H4.out.1.below hb, H4.out.2.1.trans (hb.mono H4.out.2.1.size), H4.out.2.2.2.1.below hb, H4.out.2.2.2.2.1.below hb, H4.out.2.2.2.2.1.lt⟩
    clear hsp hb HSP d2
    go_wp2
    go_loopw [9] (fun i wx => ∃ (k : Nat) (va vb : Value) (us : List Value), k ≤ S ∧ i = .int .i64 (k : Int) ∧ Mr19 w5 wx pb s n (.slice ux N uc) va vb (ls.take k) us) (fun i _ => S - (intOf i).toNat)
    case atStart => exact ⟨0, _, _, [], Nat.zero_le _, rfl, H5.out.2.2.2.2.1, World.ownsRow_nil _ _ _ _, World.ownsRow_nil _ _ _ _, rfl, fun j x l h => by simp at h, grownBy_below (Below.refl _ _), H5.out.2.2.2.2.1.lt⟩
    case round =>
      obtain ⟨k, va, vb, us, hk, rfl, hmk⟩ := hrel
      have HW : Hid (Mr19 w5 wr pb s n (.slice ux N uc) va vb (ls.take k) us) := hmk
      clear hmk
      have hk0 : (0 : Int) ≤ (k : Int) := by omega
      have hwk : IntKind.wrap .i64 ((k : Int) + 1) = (k : Int) + 1 := by rw [IntKind.wrap_i64]; omega
      by_cases hlt : k < S
      · have hlt' : (k : Int) < (S : Int) := by omega
        obtain ⟨l, hl⟩ : ∃ l, ls[k]? = some l := ⟨ls[k]'(by have := HLS.out.2.1; omega), List.getElem?_eq_getElem _⟩
        obtain ⟨v, hv⟩ : ∃ v, uz[k]? = some v := ⟨uz[k]'(by have := H5.out.1.len; have := HLS.out.2.1; omega), List.getElem?_eq_getElem _⟩
        have hrow := H5.out.1.own k l v hl hv
        have c0 : wr.cell? ⟨g5, k, none⟩ = some v := by
          have h1 := H5.out.1.lo
          have h2 := H5.out.2.2.2.2.2
          have hq := H5.out.1.blk.keep (HW.out.grown.block g5 H5.out.1.blk.lt (by simp; omega))
          rw [hq.cell k]
          exact hv
        have hpbv : ∀ b, v.ownBlock = some b → pb < b := fun b e => by
          have h1 := (hrow.lt b e).1
          have h2 := H5.out.2.2.2.2.2
          omega
        have htk : ls.take (k + 1) = ls.take k ++ [l] := by rw [List.take_add_one, hl]; rfl
        have hkl : (ls.take k).length = k := by rw [List.length_take]; have := HLS.out.2.1; omega
        obtain ⟨va0, vc0, rfl, _, _⟩ := row_form hrow
        obtain ⟨M, hM⟩ : ∃ M, M = l.length := ⟨_, rfl⟩
        have hM16 : M ≤ 16 := by rw [hM]; exact HLS.out.2.2.2 l (List.mem_of_getElem? hl)
        rw [← hM] at c0 hpbv
        by_cases h0 : l = []
        · have hgt : ¬ (0 : Int) < (M : Int) := by rw [hM, h0]; simp
          have HN : Hid (Mr19 w5 wr pb s n (.slice ux N uc) va vb (ls.take (k + 1)) us) := by
            have hm := HW.out
            have e1 : Pn.shA 0 (ls.take (k + 1)) = Pn.shA 0 (ls.take k) := by rw [htk, Pn.shA_snoc, if_pos h0, List.append_nil]
            have e2 : Pn.plA (ls.take (k + 1)) = Pn.plA (ls.take k) := by rw [htk, Pn.plA_snoc, if_pos h0, List.append_nil]
            exact ⟨hm.blk, by rw [e1]; exact hm.sh, hm.pl, by rw [e2]; exact hm.len, by rw [e2]; exact hm.at_, hm.grown, hm.lt⟩
          clear hl hv hrow hpbv htk hkl hM h0
          go_wp2
          go_roundw
          case rel => exact ⟨k + 1, va, vb, us, by omega, by go_num, HN.out⟩
          case measure => simp [intOf]; omega
        · have hgt : (0 : Int) < (M : Int) := by have := List.length_pos_iff.2 h0; omega
          have HCK : Hid (uz[k]? = some (.slice va0 M vc0)) := (show uz[k]? = _ by rw [hM]; exact hv)
          have HX : Hid ((KI.At w5 (.slice va0 M vc0) l ∧ (Value.slice va0 M vc0).oneCell' = true ∧ ∀ b, (Value.slice va0 M vc0).ownBlock = some b → pb < b) ∧ l ≠ [] ∧ ls.take (k + 1) = ls.take k ++ [l] ∧ (ls.take k).length = k) := by
            have h1 := KI.of_bi (Bi.own16 hrow) h0
            rw [← hM] at h1
            exact ⟨⟨h1, rfl, hpbv⟩, h0, htk, hkl⟩
          clear hl hv hrow hpbv htk hkl hM h0
          obtain ⟨va1, vc1, rfl, _, _⟩ := row_form HW.out.sh
          obtain ⟨vb1, vd1, rfl, _, _⟩ := row_form HW.out.pl
          obtain ⟨L1, hL1⟩ : ∃ L, L = (Pn.shA 0 (ls.take k)).length := ⟨_, rfl⟩
          obtain ⟨L2, hL2⟩ : ∃ L, L = us.length := ⟨_, rfl⟩
          rw [← hL1, ← hL2] at HW
          have HLL : Hid (L1 = (Pn.shA 0 (ls.take k)).length ∧ L2 = us.length ∧ L1 ≤ 4 ∧ L2 ≤ 4) := by
            have h1 := Pn.shA_len 0 (ls.take k)
            have h2 := Pn.plA_len (ls.take k)
            have h3 := HX.out.2.2.2
            have h4 := HW.out.len
            refine ⟨hL1, hL2, by omega, by omega⟩
          clear hL1 hL2
          have p3 : wr.cell? ⟨pb, 3, none⟩ = some (.slice va1 L1 vc1) := HW.out.blk.cell 3
          obtain ⟨sb, hsb⟩ : ∃ z, z = wr.heap.size := ⟨_, rfl⟩
          have H6 : Hid (Cb (wr.alloc (.cells #[.int .i64 (k : Int)] 3)) sb [.int .i64 (k : Int)] 3 ∧ w5.heap.size ≤ (wr.alloc (.cells #[.int .i64 (k : Int)] 3)).heap.size ∧ (wr.alloc (.cells #[.int .i64 (k : Int)] 3)).ownsRow w5.heap.size 3 1 (.slice va1 L1 vc1) (Pn.shA 0 (ls.take k)).length (KI.cs (Pn.shA 0 (ls.take k)))) := by
            rw [hsb]
            exact ⟨Cb.made wr [.int .i64 (k : Int)] _, Nat.le_trans HW.out.grown.size ((Below.refl _ wr).alloc (Nat.le_refl _) _).size, HW.out.sh.alloc _⟩
          go_upto_region 10 with fail
          go_wp2_with (at_builtin; rw [← hsb]; refine KI.ok.appL rfl _ _ rfl w5.heap.size (.slice va1 L1 vc1) (.slice (some ⟨sb, 0, none⟩) 1 1) (Pn.shA 0 (ls.take k)) [(k : Int)] (wr.alloc (.cells #[.int .i64 (k : Int)] 3)) rfl rfl H6.out.2.2 H6.out.2.1 (Kd.one_at H6.out.1) (KI.one _) (by have := HLL.out.2.2.1; have := HLL.out.1; simp; omega) ?_)
          intro v7 w7 hr7 hb7 hg7 _
          have hr7 : w7.ownsRow w5.heap.size 3 1 v7 (Pn.shA 0 (ls.take k) ++ [(k : Int)]).length (KI.cs (Pn.shA 0 (ls.take k) ++ [(k : Int)])) := by
            rw [List.length_append]
            exact hr7
          have h7 := HW.out.num _ hr7 hb7 hg7
          have q3 : w7.cell? ⟨pb, 3, none⟩ = some (.slice va1 L1 vc1) := h7.2.2.2.2.cell 3
          have f3 : w7.frozen? ⟨pb, 3, none⟩ = false := h7.2.2.2.2.free 3
          have H7 : Hid (Cb (w7.setCell ⟨pb, 3, none⟩ v7) pb [.int .i64 s, .int .i64 n, (.slice ux N uc), v7, .slice vb1 L2 vd1] 57 ∧ (w7.setCell ⟨pb, 3, none⟩ v7).ownsRow w5.heap.size 3 1 v7 (Pn.shA 0 (ls.take k) ++ [(k : Int)]).length (KI.cs (Pn.shA 0 (ls.take k) ++ [(k : Int)])) ∧ (w7.setCell ⟨pb, 3, none⟩ v7).ownsRow w5.heap.size 27 1 (.slice vb1 L2 vd1) us.length (KS.cs us) ∧ w5.grownBy (w7.setCell ⟨pb, 3, none⟩ v7) (some pb)) := ⟨h7.1, h7.2.1, h7.2.2.1, h7.2.2.2.1⟩
          obtain ⟨va7, vc7, e7, _, _⟩ := row_form H7.out.2.1
          obtain ⟨L7, hL7⟩ : ∃ L, L = (Pn.shA 0 (ls.take k) ++ [(k : Int)]).length := ⟨_, rfl⟩
          rw [← hL7] at e7
          subst e7
          clear hr7 hb7 hg7 h7 H6 hsb p3 hL7
          go_upto_region 11 with fail
          clear q3 f3
          generalize w7.setCell ⟨pb, 3, none⟩ (.slice va7 L7 vc7) = w8 at *
          have p4 : w8.cell? ⟨pb, 4, none⟩ = some (.slice vb1 L2 vd1) := H7.out.1.cell 4
          have c8 : w8.cell? ⟨g5, k, none⟩ = some (.slice va0 M vc0) := by
            have h1 := H5.out.1.lo
            have h2 := H5.out.2.2.2.2.2
            have hq := H5.out.1.blk.keep (H7.out.2.2.2.block g5 H5.out.1.blk.lt (by simp; omega))
            rw [hq.cell k]
            exact HCK.out
          have HSX : Hid (w8.cell? ⟨pb, 4, none⟩ = some (.slice vb1 L2 vd1) ∧ w8.cell? ⟨g5, k, none⟩ = some (.slice va0 M vc0)) := ⟨p4, c8⟩
          clear p4 c8
          refine wp_region_T (fun w' => (w'.cell? ⟨pb, 4, none⟩ = some (.slice vb1 L2 vd1) ∧ w'.cell? ⟨g5, k, none⟩ = some (.slice va0 M vc0))) 9 (by kernel_rfl) ?_
          have H7d : Hid (Cb w8.drew pb [.int .i64 s, .int .i64 n, (.slice ux N uc), .slice va7 L7 vc7, .slice vb1 L2 vd1] 57 ∧ w8.drew.ownsRow w5.heap.size 3 1 (.slice va7 L7 vc7) (Pn.shA 0 (ls.take k) ++ [(k : Int)]).length (KI.cs (Pn.shA 0 (ls.take k) ++ [(k : Int)])) ∧ w8.drew.ownsRow w5.heap.size 27 1 (.slice vb1 L2 vd1) us.length (KS.cs us) ∧ w5.grownBy w8.drew (some pb) ∧ w8.drew.cell? ⟨pb, 4, none⟩ = some (.slice vb1 L2 vd1) ∧ w8.drew.cell? ⟨g5, k, none⟩ = some (.slice va0 M vc0)) := ⟨H7.out.1, H7.out.2.1, H7.out.2.2.1, grownBy_trans H7.out.2.2.2 (grownBy_drew w8 _), HSX.out.1, HSX.out.2⟩
          clear HSX H7
          generalize w8.drew = x8 at *
          refine' take_T (i := 0) (d := 40) (v := _) rfl rfl (by kernel_rfl) (by kernel_rfl) (by kernel_rfl) (by kernel_rfl) (by kernel_rfl) (fun _ _ _ h => h) (Or.inl ⟨by rfl, ?h0⟩) (⟨H7d.out.2.2.2.2.1, H7d.out.2.2.2.2.2⟩) ?_
          case h0 =>
            intro w hSw
            have t1 := hSw.1
            have t2 := hSw.2
            go_simp
            with_reducible rfl
          simp only [List.setIfInBounds_toArray, List.set_cons_zero, List.set_cons_succ]
          refine' take_T (i := 1) (d := 41) (v := _) rfl rfl (by kernel_rfl) (by kernel_rfl) (by kernel_rfl) (by kernel_rfl) (by kernel_rfl) (fun _ _ _ h => h) (Or.inl ⟨by rfl, ?h1⟩) (⟨H7d.out.2.2.2.2.1, H7d.out.2.2.2.2.2⟩) ?_
          case h1 =>
            intro w hSw
            have t1 := hSw.1
            have t2 := hSw.2
            go_simp
            with_reducible rfl
          simp only [List.setIfInBounds_toArray, List.set_cons_zero, List.set_cons_succ]
          refine' take_T (i := 2) (d := 42) (v := _) rfl rfl (by kernel_rfl) (by kernel_rfl) (by kernel_rfl) (by kernel_rfl) (by kernel_rfl) (fun _ _ _ h => h) (Or.inl ⟨by rfl, ?h2⟩) (⟨H7d.out.2.2.2.2.1, H7d.out.2.2.2.2.2⟩) ?_
          case h2 =>
            intro w hSw
            have t1 := hSw.1
            have t2 := hSw.2
            go_simp
            with_reducible rfl
          simp only [List.setIfInBounds_toArray, List.set_cons_zero, List.set_cons_succ]
          refine' take_T (i := 3) (d := 43) (v := _) rfl rfl (by kernel_rfl) (by kernel_rfl) (by kernel_rfl) (by kernel_rfl) (by kernel_rfl) (fun _ _ _ h => h) (Or.inl ⟨by rfl, ?h3⟩) (⟨H7d.out.2.2.2.2.1, H7d.out.2.2.2.2.2⟩) ?_
          case h3 =>
            intro w hSw
            have t1 := hSw.1
            have t2 := hSw.2
            go_simp
            with_reducible rfl
          simp only [List.setIfInBounds_toArray, List.set_cons_zero, List.set_cons_succ]
          refine' take_T (i := 4) (d := 44) (v := _) rfl rfl (by kernel_rfl) (by kernel_rfl) (by kernel_rfl) (by kernel_rfl) (by kernel_rfl) (fun _ _ _ h => h) (Or.inl ⟨by rfl, ?h4⟩) (⟨H7d.out.2.2.2.2.1, H7d.out.2.2.2.2.2⟩) ?_
          case h4 =>
            intro w hSw
            have t1 := hSw.1
            have t2 := hSw.2
            go_simp
            with_reducible rfl
          simp only [List.setIfInBounds_toArray, List.set_cons_zero, List.set_cons_succ]
          refine' take_T (i := 5) (d := 45) (v := _) rfl rfl (by kernel_rfl) (by kernel_rfl) (by kernel_rfl) (by kernel_rfl) (by kernel_rfl) (fun _ _ _ h => h) (Or.inl ⟨by rfl, ?h5⟩) (⟨H7d.out.2.2.2.2.1, H7d.out.2.2.2.2.2⟩) ?_
          case h5 =>
            intro w hSw
            have t1 := hSw.1
            have t2 := hSw.2
            go_simp
            with_reducible rfl
          simp only [List.setIfInBounds_toArray, List.set_cons_zero, List.set_cons_succ]
          refine wpAnyT_ready (rs := [6]) (by kernel_rfl) (by simp) ?_
          refine AllReadyT.cons (o := _) rfl (fun KQ hKQ => ?_) AllReadyT.nil
          go_simp
          obtain ⟨sb, hsb⟩ : ∃ z, z = x8.heap.size := ⟨_, rfl⟩
          rw [← hsb]
          have H8 : Hid (Cb (x8.alloc (.cells #[.slice va0 M vc0] 27)) sb [.slice va0 M vc0] 27 ∧ w5.heap.size ≤ (x8.alloc (.cells #[.slice va0 M vc0] 27)).heap.size ∧ (x8.alloc (.cells #[.slice va0 M vc0] 27)).ownsRow w5.heap.size 27 1 (.slice vb1 L2 vd1) us.length (KS.cs us) ∧ (x8.alloc (.cells #[.slice va0 M vc0] 27)).cell? ⟨pb, 4, none⟩ = some (.slice vb1 L2 vd1) ∧ (x8.alloc (.cells #[.slice va0 M vc0] 27)).cell? ⟨g5, k, none⟩ = some (.slice va0 M vc0)) := by
            rw [hsb]
            have h1 := (Below.refl _ x8).alloc (Nat.le_refl _) (.cells #[.slice va0 M vc0] 27)
            exact ⟨Cb.made x8 [.slice va0 M vc0] _, Nat.le_trans H7d.out.2.2.2.1.size h1.size, H7d.out.2.2.1.alloc _, Below.kept h1 H7d.out.2.2.2.2.1, Below.kept h1 H7d.out.2.2.2.2.2⟩
          refine hKQ.out _ _ (fun _ => ⟨H8.out.2.2.2.1, H8.out.2.2.2.2⟩) ?_
          clear hKQ KQ
          refine wpAnyT_ready (rs := [7]) (by kernel_rfl) (by simp) ?_
          refine AllReadyT.cons (o := _) rfl (fun KQ hKQ => ?_) AllReadyT.nil
          refine KS.ok.appD _ _ rfl 47 rfl w5.heap.size (.slice vb1 L2 vd1) (.slice (some ⟨sb, 0, none⟩) 1 1) us [.slice va0 M vc0] (x8.alloc (.cells #[.slice va0 M vc0] 27)) rfl rfl H8.out.2.2.1 H8.out.2.1 (Kd.one_at H8.out.1) (fun y hy => by have hy : y ∈ [Value.slice va0 M vc0] := hy; simp only [List.mem_cons, List.not_mem_nil, or_false] at hy; rw [hy]; rfl) (by have := HLL.out.2.2.2; have := HLL.out.2.1; simp; omega) ?_
          intro v9 w9 hr9 hb9 hg9 _
          have h9 := Mr19.places (l := l) (z := (k : Int)) _ HW.out.at_ HW.out.len HW.out.lt H7d.out.1 H7d.out.2.1 H7d.out.2.2.1 H7d.out.2.2.2.1 hr9 hb9 hg9 HX.out.1 HX.out.2.1 (by rw [HX.out.2.2.2])
          have q4 : w9.cell? ⟨pb, 4, none⟩ = some (.slice vb1 L2 vd1) := h9.2.cell 4
          have f4 : w9.frozen? ⟨pb, 4, none⟩ = false := h9.2.free 4
          have q5 : w9.cell? ⟨g5, k, none⟩ = some (.slice va0 M vc0) := by
            rw [← H8.out.2.2.2.2]
            exact World.cell?_of_block (hb9.block g5 H5.out.1.blk.lt)
          have H9 : Hid (Mr19 w5 (w9.setCell ⟨pb, 4, none⟩ v9) pb s n (.slice ux N uc) (.slice va7 L7 vc7) v9 (ls.take (k + 1)) (us ++ [.slice va0 M vc0]) ∧ w9.cell? ⟨pb, 4, none⟩ = some (.slice vb1 L2 vd1) ∧ w9.cell? ⟨g5, k, none⟩ = some (.slice va0 M vc0)) := by
            rw [HX.out.2.2.1]
            exact ⟨h9.1, q4, q5⟩
          obtain ⟨va9, vc9, e9, _, _⟩ := row_form H9.out.1.pl
          obtain ⟨L9, hL9⟩ : ∃ L, L = (us ++ [Value.slice va0 M vc0]).length := ⟨_, rfl⟩
          rw [← hL9] at e9
          subst e9
          clear hr9 hb9 hg9 h9 H8 hsb hL9 q5
          refine hKQ.out _ _ (fun _ => H9.out.2) ?_
          clear hKQ KQ
          refine' take_T (i := 8) (d := 48) (v := _) rfl rfl (by kernel_rfl) (by kernel_rfl) (by kernel_rfl) (by kernel_rfl) (by kernel_rfl) (fun _ _ _ h => h) (Or.inl ⟨by rfl, ?h8⟩) (H9.out.2) ?_
          case h8 =>
            intro w hSw
            go_simp
            with_reducible rfl
          simp only [List.setIfInBounds_toArray, List.set_cons_zero, List.set_cons_succ]
          refine wpAnyT_ready (rs := [9]) (by kernel_rfl) (by simp) ?_
          refine AllReadyT.cons (o := _) rfl (fun KQ hKQ => ?_) AllReadyT.nil
          go_simp
          refine hKQ.out _ _ (fun h => absurd rfl h) ?_
          clear hKQ KQ
          refine wpAnyT_done (by kernel_rfl) ?_ _
          go_wp2
          go_roundw
          case rel => exact ⟨k + 1, _, _, _, by omega, by go_num, H9.out.1⟩
          case measure => simp [intOf]; omega
      · have hlt' : ¬ (k : Int) < (S : Int) := by omega
        have HF : Hid (Mr19 w5 wr pb s n (.slice ux N uc) va vb ls us) := by
          have h := HW.out
          rw [List.take_of_length_le (by have := HLS.out.2.1; omega)] at h
          exact h
        obtain ⟨va1, vc1, rfl, _, _⟩ := row_form HF.out.sh
        obtain ⟨vb1, vd1, rfl, _, _⟩ := row_form HF.out.pl
        obtain ⟨L1, hL1⟩ : ∃ L, L = (Pn.shA 0 ls).length := ⟨_, rfl⟩
        obtain ⟨L2, hL2⟩ : ∃ L, L = us.length := ⟨_, rfl⟩
        rw [← hL1, ← hL2] at HF
        clear hL1 hL2 HW
        have r0 : wr.cell? ⟨pb, 0, none⟩ = some (.int .i64 s) := HF.out.blk.cell 0
        have r1 : wr.cell? ⟨pb, 1, none⟩ = some (.int .i64 n) := HF.out.blk.cell 1
        have r2 : wr.cell? ⟨pb, 2, none⟩ = some (.slice ux N uc) := HF.out.blk.cell 2
        have r3 : wr.cell? ⟨pb, 3, none⟩ = some (.slice va1 L1 vc1) := HF.out.blk.cell 3
        have r4 : wr.cell? ⟨pb, 4, none⟩ = some (.slice vb1 L2 vd1) := HF.out.blk.cell 4
        have HCB : Hid (Cb wr cb [.int .i64 0, .int .i64 0, .slice none 0 0, .slice none 0 0, .slice none 0 0] 57 ∧ Ol wr (.slice ux N uc) os ∧ Below w.heap.size w wr) := by
          have hg := HF.out.grown
          refine ⟨H5.out.2.2.2.1.keep (hg.block cb H5.out.2.2.2.1.lt (by have := H4.out.2.2.2.2.2.2.1; simp; omega)), H.out.1.below (H5.out.2.2.1.grown hg H5.out.2.2.1.size (fun j hj => by have := H4.out.2.2.2.2.2.2.2; simp at hj; omega)), H5.out.2.2.1.grown hg H5.out.2.2.1.size (fun j hj => by have := H4.out.2.2.2.2.2.2.2; simp at hj; omega)⟩
        go_wp2_with (refine wpList_store_row rfl 57 _ _ rfl cb #[.int .i64 s, .int .i64 n, (.slice ux N uc), .slice va1 L1 vc1, .slice vb1 L2 vd1] rfl rfl 57 _ HCB.out.1 (by kernel_rfl) rfl (by kernel_rfl) ?_)
        have HPV : Hid (Pv wr (Pn.of t s n os) (.slice ux N uc) (.slice va1 L1 vc1) (.slice vb1 L2 vd1)) := by
          have hlen := HF.out.len
          refine ⟨HCB.out.2.1, ?_, us, ?_, ?_, fun j x l hx hl => ?_⟩
          · have h := KI.ok.row (show wr.ownsRow w5.heap.size KI.T KI.sz _ (Pn.shA 0 ls).length (KI.cs (Pn.shA 0 ls)) from HF.out.sh)
            rw [HLS.out.1] at h
            exact h
          · exact KS.ok.row (show wr.ownsRow w5.heap.size KS.T KS.sz _ us.length (KS.cs us) from HF.out.pl)
          · rw [HLS.out.1] at hlen
            exact hlen
          · have h1 := HF.out.at_ j x l hx (by rw [HLS.out.1]; exact hl)
            exact h1.1.grown HF.out.grown (fun e => by have := h1.2.2 pb e; omega)
        have HPV2 : Hid (Pv (wr.setRow cb #[.int .i64 s, .int .i64 n, (.slice ux N uc), .slice va1 L1 vc1, .slice vb1 L2 vd1]) (Pn.of t s n os) (.slice ux N uc) (.slice va1 L1 vc1) (.slice vb1 L2 vd1)) := by
          have hg := rowed_grown wr cb #[.int .i64 s, .int .i64 n, (.slice ux N uc), .slice va1 L1 vc1, .slice vb1 L2 vd1]
          have hcl := H5.out.2.2.2.1.lt
          have hcp := H4.out.2.2.2.2.2.2.1
          obtain ⟨us', h1, h2, h3⟩ := HPV.out.pl
          have hsh := HF.out.sh
          have hpl := HF.out.pl
          refine ⟨H.out.1.below (rowed_below HCB.out.2.2 (Nat.le_refl _) H0.out.2.2.2.2.2 _), HPV.out.sh.grown hg (fun e => ?_), us, ?_, ?_, fun j x l hx hl => ?_⟩
          · have := (hsh.lt cb e).1
            omega
          · have h := KS.ok.row (show wr.ownsRow w5.heap.size KS.T KS.sz _ us.length (KS.cs us) from HF.out.pl)
            refine h.grown hg (fun e => ?_)
            have := (hpl.lt cb e).1
            omega
          · have h := HF.out.len
            rw [HLS.out.1] at h
            exact h
          · have h1 := HF.out.at_ j x l hx (by rw [HLS.out.1]; exact hl)
            exact (h1.1.grown HF.out.grown (fun e => by have := h1.2.2 pb e; omega)).grown hg (fun e => by have := h1.2.2 cb e; omega)
        refine bodyPost_ret (v := .tuple #[.agg #[.int .i64 s, .int .i64 n, (.slice ux N uc), .slice va1 L1 vc1, .slice vb1 L2 vd1], .int .i64 0]) ?_ rfl ⟨rowed_below HCB.out.2.2 (Nat.le_refl _) H0.out.2.2.2.2.2 _, fun e => absurd HE0.out e, fun _ => ⟨_, _, _, rfl, HPV2.out⟩⟩
        exact (results_cell_tmp19 (p := 4) (s := 5) rfl _ _ cb 57 _ (0, 0) _ rfl (HCB.out.1.rowed [.int .i64 s, .int .i64 n, (.slice ux N uc), .slice va1 L1 vc1, .slice vb1 L2 vd1]) Tryz.underlying57 rfl (by kernel_rfl)).trans rfl
  · have hb0 : (e0 != 0) = true := by simp [he]
    go_wp2_with (refine wpList_store_row rfl 57 _ _ rfl cb #[.int .i64 0, .int .i64 0, .slice none 0 0, .slice none 0 0, .slice none 0 0] rfl rfl 57 _ H1.out.2.2 (by kernel_rfl) rfl (by kernel_rfl) ?_)
    refine bodyPost_ret (v := .tuple #[.agg #[.int .i64 0, .int .i64 0, .slice none 0 0, .slice none 0 0, .slice none 0 0], .int .i64 e0]) ?_ rfl ⟨rowed_below H1.out.1 (Nat.le_refl _) H0.out.2.2.2.2.2 _, fun _ => by rw [← HE.out]; rfl, fun e => absurd (HE.out.trans e) he⟩
    exact (results_cell_tmp19 (p := 4) (s := 5) rfl _ _ cb 57 _ (0, 0) _ rfl (H1.out.2.2.rowed [.int .i64 0, .int .i64 0, .slice none 0 0, .slice none 0 0, .slice none 0 0]) Tryz.underlying57 rfl (by kernel_rfl)).trans rfl
end Go.Proofs.YtjimemnkmpapgaaGreatDoor
