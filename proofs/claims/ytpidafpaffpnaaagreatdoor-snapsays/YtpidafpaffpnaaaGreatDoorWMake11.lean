/- What the landed tree's created answers. -/
import Derived.Test.YtpidafpaffpnaaaGreatDoorWPlace11
import Derived.Test.YtpidafpaffpnaaaGreatDoorBas
namespace Go.Proofs.YtpidafpaffpnaaaGreatDoor
open Go.RowKit
/-- What is told of a node, out of a node that was answered. -/
theorem statOf11 (n : Kq.Kn) (v : Value) (w : World) : (Instr.field 38 (.agg #[.int .i64 n.made, .int .i64 n.changed, .int .i64 n.ver, .int .i64 n.kids, .int .i64 n.owner, .int .i64 n.len, .int .i64 n.cnt, .string n.data, .int .i64 n.next, v]) 0).run Tryz.prog w = .ok (.agg #[.int .i64 n.made, .int .i64 n.changed, .int .i64 n.ver, .int .i64 n.kids, .int .i64 n.owner, .int .i64 n.len, .int .i64 n.cnt]) w := by kernel_rfl
/-- What a call that is handed an Op, and answers a result, begins with. -/
structure Fr11 (W w : World) (b r : Nat) (o : O) : Prop where
  op : Box5 w b o
  res : Cb w r (xc (Tq.fail 0) (.slice none 0 0)) 44
  ne : b < r
  hi : W.heap.size ≤ b
  blk : Cb w b (oc o) 33
  below : Below W.heap.size W w
theorem Fr11.later {W w w' : World} {b r : Nat} {o : O} (h : Fr11 W w b r o) (hb : Below w.heap.size w w') : Fr11 W w' b r o := ⟨h.op.below hb, h.res.below hb, h.ne, h.hi, h.blk.below hb, h.below.trans (hb.mono h.below.size)⟩
theorem Fr11.made (w : World) (o : O) : Fr11 w ((w.alloc (.cells #[.int .i64 o.kind, .string o.path, .string o.data, .int .i64 o.ver, .int .i64 o.flags] 33)).alloc (.cells #[.int .i64 0, .string ⟨#[]⟩, .string ⟨#[]⟩, .slice none 0 0, .int .i64 0, .int .i64 0, .int .i64 0, .int .i64 0, .int .i64 0, .int .i64 0, .int .i64 0] 44)) w.heap.size (w.heap.size + 1) o := by
  have h1 := (Below.refl _ w).alloc (Nat.le_refl _) (.cells #[.int .i64 o.kind, .string o.path, .string o.data, .int .i64 o.ver, .int .i64 o.flags] 33)
  have h2 := (Below.refl _ (w.alloc (.cells #[.int .i64 o.kind, .string o.path, .string o.data, .int .i64 o.ver, .int .i64 o.flags] 33))).alloc (Nat.le_refl _) (.cells #[.int .i64 0, .string ⟨#[]⟩, .string ⟨#[]⟩, .slice none 0 0, .int .i64 0, .int .i64 0, .int .i64 0, .int .i64 0, .int .i64 0, .int .i64 0, .int .i64 0] 44)
  have h3 := Cb.made (w.alloc (.cells #[.int .i64 o.kind, .string o.path, .string o.data, .int .i64 o.ver, .int .i64 o.flags] 33)) (xc (Tq.fail 0) (.slice none 0 0)) 44
  rw [World.size_alloc] at h3
  exact ⟨(Box5.made w o _).below h2, h3, by omega, Nat.le_refl _, (Cb.made w (oc o) _).below h2, h1.trans (h2.mono h1.size)⟩
/-- The result is written. -/
theorem Fr11.put {W w : World} {b r : Nat} {o : O} (h : Fr11 W w b r o) (x : X) (v : Value) : Cb (w.setRow r (xc x v).toArray) r (xc x v) 44 ∧ Below W.heap.size W (w.setRow r (xc x v).toArray) := ⟨h.res.rowed _, rowed_below h.below (Nat.le_refl _) (by have := h.ne; have := h.hi; omega) _⟩

section
variable {w : World} {q m : Nat} {t : Tq.Tr} {G : Nat → Prop} {D : DataW Nat} {P : ByteArray → Nat} {V : ByteArray → Value}

set_option maxRecDepth 20000 in
set_option maxHeartbeats 4000000 in
theorem created_any11 (o : O) (s z : Int) (h : TkU w q t G m D P V) (hS : Pa.Std w) (hg : Pl.goodB o.path.data.toList = true) (hd : o.data.size ≤ 1000) (hf0 : 0 ≤ o.flags) (hf3 : o.flags ≤ 3) :
    Calls Tryz.prog 59 #[dptr q, ov o, .int .i64 s, .int .i64 z] w fun e w' => e = .returned (rv (Tq.create t o s z).1 (.slice none 0 0)) ∧ Below w.heap.size w w' := by
  have HFR : Hid (Fr11 w ((w.alloc (.cells #[.int .i64 o.kind, .string o.path, .string o.data, .int .i64 o.ver, .int .i64 o.flags] 33)).alloc (.cells #[.int .i64 0, .string ⟨#[]⟩, .string ⟨#[]⟩, .slice none 0 0, .int .i64 0, .int .i64 0, .int .i64 0, .int .i64 0, .int .i64 0, .int .i64 0, .int .i64 0] 44)) w.heap.size (w.heap.size + 1) o) := Fr11.made w o
  have HD : Hid (TkU ((w.alloc (.cells #[.int .i64 o.kind, .string o.path, .string o.data, .int .i64 o.ver, .int .i64 o.flags] 33)).alloc (.cells #[.int .i64 0, .string ⟨#[]⟩, .string ⟨#[]⟩, .slice none 0 0, .int .i64 0, .int .i64 0, .int .i64 0, .int .i64 0, .int .i64 0, .int .i64 0, .int .i64 0] 44)) q t G m D P V ∧ Pa.Std ((w.alloc (.cells #[.int .i64 o.kind, .string o.path, .string o.data, .int .i64 o.ver, .int .i64 o.flags] 33)).alloc (.cells #[.int .i64 0, .string ⟨#[]⟩, .string ⟨#[]⟩, .slice none 0 0, .int .i64 0, .int .i64 0, .int .i64 0, .int .i64 0, .int .i64 0, .int .i64 0, .int .i64 0] 44))) := ⟨h.below HFR.out.below, hS.below HFR.out.below⟩
  have HS : Hid (Pl.goodB o.path.data.toList = true ∧ o.data.size ≤ 1000 ∧ 0 ≤ o.flags ∧ o.flags ≤ 3) := ⟨hg, hd, hf0, hf3⟩
  have hand : bits .and .i64 o.flags 1 = if o.flags = 1 ∨ o.flags = 3 then 1 else 0 := Oq.and1 o.flags hf0 hf3
  obtain ⟨b, hbw⟩ : ∃ b, b = w.heap.size := ⟨_, rfl⟩
  obtain ⟨r, hrw⟩ : ∃ r, r = w.heap.size + 1 := ⟨_, rfl⟩
  rw [← hrw, ← hbw] at HFR
  obtain ⟨R, hR⟩ : ∃ R, R = (Tq.create t o s z).1 := ⟨_, rfl⟩
  have HR : Hid (R = (Tq.create t o s z).1) := hR
  rw [← hR]
  have HPL : Hid (∀ w, TkU w q t G m D P V → Pa.Std w → Calls Tryz.prog 117 #[dptr q, ov o] w fun e w' => e = .returned (.tuple #[.string (Tq.placeT t o).1, .int .i64 (Tq.placeT t o).2]) ∧ Below w.heap.size w w') := fun w h hS => place_any11 o h hS hg hf0 hf3
  clear hR h hS hg hd hf0 hf3
  unfold ov at HPL
  unfold ov
  go_enter Tryz.func59, Tryz.ntmps59
  go_wp2_with fail
  rw [← hrw, ← hbw]
  clear hrw hbw
  generalize ((w.alloc (.cells #[.int .i64 o.kind, .string o.path, .string o.data, .int .i64 o.ver, .int .i64 o.flags] 33)).alloc (.cells #[.int .i64 0, .string ⟨#[]⟩, .string ⟨#[]⟩, .slice none 0 0, .int .i64 0, .int .i64 0, .int .i64 0, .int .i64 0, .int .i64 0, .int .i64 0, .int .i64 0] 44)) = w0 at *
  refine (HPL.out w0 HD.out.1 HD.out.2).mono ?_
  rintro e w1 ⟨rfl, hb⟩
  have H1 : Hid (Fr11 w w1 b r o ∧ TkU w1 q t G m D P V ∧ Pa.Std w1) := ⟨HFR.out.later hb, HD.out.1.below hb, HD.out.2.below hb⟩
  clear hb
  obtain ⟨px, hpx⟩ : ∃ x, x = (Tq.placeT t o).1 := ⟨_, rfl⟩
  obtain ⟨pe, hpe⟩ : ∃ x, x = (Tq.placeT t o).2 := ⟨_, rfl⟩
  rw [← hpx, ← hpe]
  have HP : Hid (px = (Tq.placeT t o).1 ∧ pe = (Tq.placeT t o).2) := ⟨hpx, hpe⟩
  clear hpx hpe
  by_cases h0 : pe = 0
  · have HC : Hid (Tq.create t o s z = Tq.makeAt t (Tq.up px) px (Tq.ownT o s) z o.data ∧ Pl.goodB px.data.toList = true) := by
      have h := Tq.create_may (t := t) (s := s) (z := z) HS.out.1 (by rw [← HP.out.2]; exact h0)
      rw [← HP.out.1] at h
      exact h
    subst h0
    go_wp2_with fail
    refine (mayLay_any11 px H1.out.2.1 (good_max HC.out.2)).mono ?_
    rintro e w2 ⟨rfl, hb⟩
    have H2 : Hid (Fr11 w w2 b r o ∧ TkU w2 q t G m D P V ∧ Pa.Std w2) := ⟨H1.out.1.later hb, H1.out.2.1.below hb, H1.out.2.2.below hb⟩
    clear hb
    obtain ⟨me, hme⟩ : ∃ x, x = Tq.mayT t px := ⟨_, rfl⟩
    rw [← hme]
    have HM : Hid (me = Tq.mayT t px) := hme
    clear hme
    by_cases h1 : me = 0
    · subst h1
      have HE : Hid (R = Tq.told px ⟨#[]⟩ [] (Kq.new z (Tq.ownT o s) o.data)) := by
        have e : R = Tq.told px ⟨#[]⟩ [] (Kq.new z (Tq.ownT o s) o.data) := by rw [HR.out, HC.out.1, Tq.make_may, if_neg (by rw [← HM.out]; simp)]
        exact e
      obtain ⟨c0, c1, c2, c3, c4⟩ := H2.out.1.op.all
      clear c0 c1 c3
      by_cases hfl : o.flags = 1 ∨ o.flags = 3
      · have HOW : Hid (Tq.ownT o s = s) := by
          have e : Tq.ownT o s = s := by unfold Tq.ownT; rw [if_pos hfl]
          exact e
        rw [HOW.out] at HE
        rw [if_pos hfl] at hand
        clear hfl
        go_wp2_with fail
        refine (new_any10 z s o.data w2 (by have := HS.out.2.1; omega)).mono ?_
        rintro e w3 ⟨na, nc, rfl, _, hb⟩
        have H3 : Hid (Fr11 w w3 b r o) := H2.out.1.later hb
        clear hb c2 c4 hand
        unfold kv
        have hfd := statOf11 (Kq.new z s o.data) (.slice na 0 nc)
        go_wp2_with (refine wpList_store_row rfl 44 _ _ rfl r (xc (Tq.told px ⟨#[]⟩ [] (Kq.new z s o.data)) (.slice none 0 0)).toArray rfl rfl 44 _ H3.out.res (by kernel_rfl) rfl (by kernel_rfl) ?_)
        have H4 := H3.out.put (Tq.told px ⟨#[]⟩ [] (Kq.new z s o.data)) (.slice none 0 0)
        refine bodyPost_ret (v := .agg (xc (Tq.told px ⟨#[]⟩ [] (Kq.new z s o.data)) (.slice none 0 0)).toArray) ?_ rfl ⟨by rw [HE.out]; rfl, H4.2⟩
        exact results_cell_row rfl _ _ r 44 _ (0, 0) _ rfl H4.1 Tryz.underlying44 rfl (by kernel_rfl)
      · have HOW : Hid (Tq.ownT o s = 0) := by
          have e : Tq.ownT o s = 0 := by unfold Tq.ownT; rw [if_neg hfl]
          exact e
        rw [HOW.out] at HE
        rw [if_neg hfl] at hand
        clear hfl
        go_wp2_with fail
        refine (new_any10 z 0 o.data w2 (by have := HS.out.2.1; omega)).mono ?_
        rintro e w3 ⟨na, nc, rfl, _, hb⟩
        have H3 : Hid (Fr11 w w3 b r o) := H2.out.1.later hb
        clear hb c2 c4 hand
        unfold kv
        have hfd := statOf11 (Kq.new z 0 o.data) (.slice na 0 nc)
        go_wp2_with (refine wpList_store_row rfl 44 _ _ rfl r (xc (Tq.told px ⟨#[]⟩ [] (Kq.new z 0 o.data)) (.slice none 0 0)).toArray rfl rfl 44 _ H3.out.res (by kernel_rfl) rfl (by kernel_rfl) ?_)
        have H4 := H3.out.put (Tq.told px ⟨#[]⟩ [] (Kq.new z 0 o.data)) (.slice none 0 0)
        refine bodyPost_ret (v := .agg (xc (Tq.told px ⟨#[]⟩ [] (Kq.new z 0 o.data)) (.slice none 0 0)).toArray) ?_ rfl ⟨by rw [HE.out]; rfl, H4.2⟩
        exact results_cell_row rfl _ _ r 44 _ (0, 0) _ rfl H4.1 Tryz.underlying44 rfl (by kernel_rfl)
    · have HE : Hid (R = Tq.fail me) := by
        have e : R = Tq.fail me := by rw [HR.out, HC.out.1, Tq.make_may, if_pos (by rw [← HM.out]; exact h1), HM.out]
        exact e
      go_wp2_with (refine wpList_store_row rfl 44 _ _ rfl r (xc (Tq.fail me) (.slice none 0 0)).toArray rfl rfl 44 _ H2.out.1.res (by kernel_rfl) rfl (by kernel_rfl) ?_)
      have H3 := H2.out.1.put (Tq.fail me) (.slice none 0 0)
      refine bodyPost_ret (v := .agg (xc (Tq.fail me) (.slice none 0 0)).toArray) ?_ rfl ⟨by rw [HE.out]; rfl, H3.2⟩
      exact results_cell_row rfl _ _ r 44 _ (0, 0) _ rfl H3.1 Tryz.underlying44 rfl (by kernel_rfl)
  · have HE : Hid (R = Tq.fail pe) := by
      have e : R = Tq.fail pe := by rw [HR.out, Tq.create_no (by rw [← HP.out.2]; exact h0), HP.out.2]
      exact e
    go_wp2_with (refine wpList_store_row rfl 44 _ _ rfl r (xc (Tq.fail pe) (.slice none 0 0)).toArray rfl rfl 44 _ H1.out.1.res (by kernel_rfl) rfl (by kernel_rfl) ?_)
    have H3 := H1.out.1.put (Tq.fail pe) (.slice none 0 0)
    refine bodyPost_ret (v := .agg (xc (Tq.fail pe) (.slice none 0 0)).toArray) ?_ rfl ⟨by rw [HE.out]; rfl, H3.2⟩
    exact results_cell_row rfl _ _ r 44 _ (0, 0) _ rfl H3.1 Tryz.underlying44 rfl (by kernel_rfl)
end
end Go.Proofs.YtpidafpaffpnaaaGreatDoor
